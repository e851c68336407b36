/- The landed source's withCells, moveLines, change, told plainly. (written by tools/gensourcechange.py) -/
import Derived.Test.YtoaabebgmdbjeaaGreatDoorSb19
import Derived.Test.YtoaabebgmdbjeaaGreatDoorSb20
set_option maxRecDepth 100000
set_option maxHeartbeats 16000000
set_option linter.unusedVariables false
namespace Go.Proofs.YtoaabebgmdbjeaaGreatDoor
open Go Go.RowKit
theorem G7 (s t:SN.Sc) (v vG:Value) (G:PG.Gr) (w:World) (ht:(s.uG G).u5 false=t) (h:IsS w s v) (hG:IsG w G vG):Calls Tryz.prog 192 #[v,vG] w (BD w t):=by
 obtain⟨x,rfl,hg⟩:=h
 obtain⟨A,cp,rfl⟩:=Ad hg
 have HG:=hide hG
 obtain⟨y0,hy0,hyo⟩:=hG
 obtain⟨A1,c1,rfl⟩:=Ad (G:=G) ⟨_,rfl,hyo⟩
 subst hy0
 have hTg:t.g=G:=by rw [<- ht];rfl
 have HTT:=hide ht
 have HS0:=hide hg
 clear ht hyo hg
 unfold gv at HG⊢
 go_enter Tryz.func192,Tryz.ntmps192
 go_upto_region 1 with (refine Dw HS0 _ rfl rfl rfl _ rfl rfl (fun _=>rfl) rfl rfl ?_;intro g gE gR w2 csR hsR HB2 HE2 HW2 HR2 HS2 hne FM FN hg1 Ai)
 have HG2:=hide (show IsG w2 G (gv G.rows G.AB (.slice A1 (G.rows*G.AB) c1)) from HG.out.low HW2.out)
 clear HG HS0 HS2
 have e0:w2.cell? ⟨gE,0,none⟩=some (.int .i64 G.rows):=HE2.out.cell 0
 have e1:w2.cell? ⟨gE,1,none⟩=some (.int .i64 G.AB):=HE2.out.cell 1
 have e2:w2.cell? ⟨gE,2,none⟩=some (.slice A1 (G.rows*G.AB) c1):=HE2.out.cell 2
 go_upto_region 2 with (refine Cc (y:=.slice A1 (G.rows*G.AB) c1) (G:=G) HB2.out rfl _ _ rfl rfl rfl rfl ?_;intro w3 hB3 hk3 hs3)
 have HB3:=hide hB3
 have HR3:=hide (HR2.out.kept hk3 (by simp;exact hne))
 have HW3:=hide (HW2.out.trans (hk3.toBelow HW2.out.size (fun k hh=>by simp at hh;omega)))
 have HG3:=hide (HG2.out.kept HB2.out (by decide) hk3)
 clear e0 e1 e2 hB3 hk3 hs3 HB2 HE2 HR2 HW2 HG2
 have z5:=HB3.out.fz 5
 have k5:=HB3.out.c5
 go_upto_region 3 with fail
 have HB4:=hide (HB3.out.KE false)
 obtain⟨HR4,HW4,HG4⟩:=EJ 5 (.bool false) HB3 HR3 HW3 HG3 hne hg1
 generalize (w3.setCell ⟨g,5,none⟩ (.bool false))=w4 at HB4 HR4 HW4 HG4⊢
 clear z5 k5 HB3 HR3 HW3 HG3
 go_wp2_with (first | (refine AX HB4.out rfl _ rfl rfl ?_) | (refine AQ HR4.out hsR rfl _ _ rfl rfl rfl rfl ?_;intro w8 hB8 hk8 hs8))
 have htt:=HTT.out
 subst htt
 exact BX rfl rfl rfl hB8 HG4 HR4 HW4 hk8 Ai
theorem Qw (s t:SN.Sc) (v:Value) (m:Nat) (w:World) (hs:SN.Ac s) (hm:m<=65535) (ht:(if SN.InM s then SN.atS (s.uG (PG.Am s.g s.row s.bot (-(m:Int)) (SN.BI s))) s.row 0 else s)=t) (h:IsS w s v):Calls Tryz.prog 196 #[v,.int .i64 m,.func (.func 190) #[] #[]] w (BD w t):=by
 obtain⟨x,rfl,hg⟩:=h
 obtain⟨A,cp,rfl⟩:=Ad hg
 have HG:=hide hg
 have hgr:=hs.g.2.1
 have hgc:=hs.g.2.2.2.1
 have hR1:=hs.g.1
 have hK1:=hs.g.2.2.1
 have hrow:=hs.row
 have CJ:=hs.col
 have htop:=SN.DZ hs
 have JQ:=hs.bot
 by_cases hin:SN.InM s
 ·rw [if_pos hin] at ht
  obtain⟨hi1,hi2⟩:=hin
  have q1: ¬(s.row:Int)<(s.top:Int):=by omega
  have q2: ¬(s.bot:Int)<(s.row:Int):=by omega
  have FL:=hide (fun w'=>Ic s (.slice A (s.g.rows*s.g.AB) cp) w')
  have SI:PG.DI s.g s.row s.bot (-(m:Int)) (SN.BI s)=PG.Am s.g s.row s.bot (-(m:Int)) (SN.BI s):=(if_pos ⟨by omega,by omega⟩).trans (by simp)
  have SC0:=fun (w':World) (hb:Below w.heap.size w w')=>Ta (w:=w') hs.g (hg.low hb) s.row s.bot m (SN.BI s) (SN.Bz hs) (by omega) (by omega) (by omega)
  rw [SI] at SC0
  have hsz:=PG.Dq s.g s.row s.bot (-(m:Int)) (SN.BI s)
  have hRT:SN.Ac (s.uG (PG.Am s.g s.row s.bot (-(m:Int)) (SN.BI s))):=SN.Fv hs (PG.Ey hs.g (SN.Bz hs) _ _ _) hsz.1 hsz.2
  generalize PG.Am s.g s.row s.bot (-(m:Int)) (SN.BI s)=T at SC0 ht hRT
  have SC:=hide (fun w' (hb:Below w.heap.size w w')=>(show Calls Tryz.prog 190 #[.agg #[.int .i64 s.g.rows,.int .i64 s.g.AB,.slice A (s.g.rows*s.g.AB) cp],.int .i64 s.row,.int .i64 s.bot,.int .i64 m,.agg #[.int .i64 (-1),.int .i64 s.pen.2.1,.int .i64 0]] w' (Dk w' T) from SC0 w' hb))
  have AT:=hide (fun w' v' h=>(show Calls Tryz.prog 134 #[v'] w' (BD w' t) from FU (s.uG T) t v' w' hRT ht h))
  clear SC0 SI ht hs hg hRT hsz
  go_enter Tryz.func196,Tryz.ntmps196
  go_upto_region 1 with (refine Bc HG _ rfl rfl rfl rfl rfl ?_;intro g gR w2 csR hsR HB2 HW2 HR2 HG2 hne hg1 Ai)
  clear HG
  have k3:=HB2.out.c3
  have k6:=HB2.out.c6
  have k7:=HB2.out.c7
  go_upto_region 3 with fail
  have SCX:=hide (fun w' (hb:Below w2.heap.size w2 w')=>SC.out w' (HW2.out.trans (hb.mono HW2.out.size)))
  clear SC
  go_simp
  go_cut [] from 20 to 32 (fun wx=> ∃A4 c4,Ak wx g (.slice A4 (T.rows*T.AB) c4) (s.uG T)/\Below w.heap.size w wx/\Box wx gR 43 csR/\IsG wx T (gv T.rows T.AB (.slice A4 (T.rows*T.AB) c4)))
  case first=>
   refine Bh (n:=34) 12 [] (fun _=> #[]) [(0,0,0,0,0),(0,0,0,0,0),(0,0,0,0,0),(0,0,0,0,0),(0,0,0,0,0),(0,0,0,0,0),(0,0,0,0,0),(0,0,0,0,0),(0,0,0,0,0),(0,0,0,0,0),(1,0,0,0,0),(0,0,0,0,0),(0,0,0,0,0)] (fun j=> [(.func (.func 190) #[] #[]),(.pointer (some ⟨g,0,none⟩)),(.agg #[.int .i64 (s.g.rows:Nat),.int .i64 (s.g.AB:Nat),.slice A (s.g.rows*s.g.AB) cp]),(.pointer (some ⟨g,3,none⟩)),(.int .i64 (s.row:Nat)),(.pointer (some ⟨g,7,none⟩)),(.int .i64 (s.bot:Nat)),(.int .i64 (m:Nat)),(.agg (scA (.slice A (s.g.rows*s.g.AB) cp) s)),(.agg #[.int .i64 (-1),.int .i64 s.pen.2.1,.int .i64 0]),undef,(.pointer (some ⟨g,0,none⟩)),undef].getD j undef) [none,none,none,none,none,none,none,none,none,none,some (Ea T)] (fun _=>0) (by kernel_rfl) (by kernel_rfl) (by kernel_rfl) rfl (by kernel_rfl) (by kernel_rfl) (Dt rfl) (fun i j h=>by revert h;exact Dt (p:=fun _=>_) rfl i) (Aj.none_ (Aj.none_ (Aj.none_ (Aj.none_ (Aj.none_ (Aj.none_ (Aj.none_ (Aj.none_ (Aj.none_ (Aj.none_ (Aj.some_ (Ea.stays (by kernel_rfl)) (Aj.nil _)))))))))))) (fun hGS=>GL ⟨?_,?_,?_,?_,?_,?_,?_,?_,?_,?_,?_,?_⟩) ?_
   ·intro L a w' hL hsame hsz hJ AJ hcl
    refine BG hJ hGS hcl hL 2 (.func (.func 190) #[] #[]) (.func (.func 190) #[] #[]) (AY hsame (by kernel_rfl)) _ rfl rfl rfl rfl rfl fun ρ _ e0=>?_
    clear hJ hsame AJ hcl hsz
    go_simp
   ·intro L a w' hL hsame hsz hJ AJ hcl
    refine BG hJ hGS hcl hL 3 (.pointer (some ⟨g,0,none⟩)) (.pointer (some ⟨g,0,none⟩)) (AY hsame (by kernel_rfl)) _ rfl rfl rfl rfl rfl fun ρ _ e0=>?_
    clear hJ hsame AJ hcl hsz
    go_simp
   ·intro L a w' hL hsame hsz hJ AJ hcl
    have hx:=hJ.Ah ((show Box w2 g 43 (scA (.slice A (s.g.rows*s.g.AB) cp) s) from HB2.out)) (by simp)
    have q0:w'.cell? ⟨g,0,none⟩=some (.int .i64 (s.g.rows:Nat)):=hx.cell 0
    have q1:w'.cell? ⟨g,1,none⟩=some (.int .i64 (s.g.AB:Nat)):=hx.cell 1
    have q2:w'.cell? ⟨g,2,none⟩=some (.slice A (s.g.rows*s.g.AB) cp):=hx.cell 2
    refine BG hJ hGS hcl hL 21 (.pointer (some ⟨g,0,none⟩)) (.agg #[.int .i64 (s.g.rows:Nat),.int .i64 (s.g.AB:Nat),.slice A (s.g.rows*s.g.AB) cp]) (gslot hJ AJ 1 (by kernel_rfl) (by kernel_rfl) (by decide) rfl rfl) _ rfl rfl rfl rfl rfl fun ρ _ e0=>?_
    clear hJ hsame AJ hcl hsz hx
    go_simp
   ·intro L a w' hL hsame hsz hJ AJ hcl
    refine BG hJ hGS hcl hL 3 (.pointer (some ⟨g,0,none⟩)) (.pointer (some ⟨g,3,none⟩)) (AY hsame (by kernel_rfl)) _ rfl rfl rfl rfl rfl fun ρ _ e0=>?_
    clear hJ hsame AJ hcl hsz
    go_simp
   ·intro L a w' hL hsame hsz hJ AJ hcl
    have q0:w'.cell? ⟨g,3,none⟩=some (.int .i64 (s.row:Nat)):=(hJ.Ah ((show Box w2 g 43 (scA (.slice A (s.g.rows*s.g.AB) cp) s) from HB2.out)) (by simp)).cell 3
    refine BG hJ hGS hcl hL 23 (.pointer (some ⟨g,3,none⟩)) (.int .i64 (s.row:Nat)) (gslot hJ AJ 3 (by kernel_rfl) (by kernel_rfl) (by decide) rfl rfl) _ rfl rfl rfl rfl rfl fun ρ _ e0=>?_
    clear hJ hsame AJ hcl hsz
    go_simp
   ·intro L a w' hL hsame hsz hJ AJ hcl
    refine BG hJ hGS hcl hL 3 (.pointer (some ⟨g,0,none⟩)) (.pointer (some ⟨g,7,none⟩)) (AY hsame (by kernel_rfl)) _ rfl rfl rfl rfl rfl fun ρ _ e0=>?_
    clear hJ hsame AJ hcl hsz
    go_simp
   ·intro L a w' hL hsame hsz hJ AJ hcl
    have q0:w'.cell? ⟨g,7,none⟩=some (.int .i64 (s.bot:Nat)):=(hJ.Ah ((show Box w2 g 43 (scA (.slice A (s.g.rows*s.g.AB) cp) s) from HB2.out)) (by simp)).cell 7
    refine BG hJ hGS hcl hL 25 (.pointer (some ⟨g,7,none⟩)) (.int .i64 (s.bot:Nat)) (gslot hJ AJ 5 (by kernel_rfl) (by kernel_rfl) (by decide) rfl rfl) _ rfl rfl rfl rfl rfl fun ρ _ e0=>?_
    clear hJ hsame AJ hcl hsz
    go_simp
   ·intro L a w' hL hsame hsz hJ AJ hcl
    refine BG hJ hGS hcl hL 1 (.int .i64 (m:Nat)) (.int .i64 (m:Nat)) (AY hsame (by kernel_rfl)) _ rfl rfl rfl rfl rfl fun ρ _ e0=>?_
    clear hJ hsame AJ hcl hsz
    go_simp
   ·intro L a w' hL hsame hsz hJ AJ hcl
    have hb:=hJ.kept.toBelow (Nat.le_refl _) (by simp)
    have e0:a.eval (.tmp 3)=(.pointer (some ⟨g,0,none⟩)):=AY hsame (by kernel_rfl)
    have hx:=hJ.Ah ((show Box w2 g 43 (scA (.slice A (s.g.rows*s.g.AB) cp) s) from HB2.out)) (by simp)
    exact Step.val _ rfl rfl (AV rfl) (.agg (scA (.slice A (s.g.rows*s.g.AB) cp) s)) w' (fun ρ hρ=>Aq hx rfl ρ _ rfl ((hρ _).symm.trans e0)) (hJ.val hGS hcl hL rfl (Below.refl _ _) _ rfl)
   ·intro L a w' hL hsame hsz hJ AJ hcl
    have hb:=hJ.kept.toBelow (Nat.le_refl _) (by simp)
    have e0:a.eval (.tmp 28)=(.agg (scA (.slice A (s.g.rows*s.g.AB) cp) s)):=AU (j:=8) (by kernel_rfl) (hJ.valOf (by decide) (AZ AJ 8 (by kernel_rfl)) rfl rfl)
    refine Step.call _ rfl rfl (AV rfl) 111 #[.agg (scA (.slice A (s.g.rows*s.g.AB) cp) s)] (fun ρ hρ=>?_) ?_
    ·skip
     rw [hρ] at e0
     have ef:ρ (.func 111)=.func (.func 111) #[] #[] :=(hρ _).symm
     clear hJ hsame AJ hcl hρ hsz hb
     go_simp
    ·refine(FL.out _).mono ?_
     rintro e w2 ⟨rfl,bb⟩
     exact⟨_,rfl,hJ.val hGS hcl hL rfl bb _ rfl⟩
   ·intro L a w' hL hsame hsz hJ AJ hcl
    have hb:=hJ.kept.toBelow (Nat.le_refl _) (by simp)
    have e0:a.eval (.tmp 22)=(.agg #[.int .i64 (s.g.rows:Nat),.int .i64 (s.g.AB:Nat),.slice A (s.g.rows*s.g.AB) cp]):=AU (j:=2) (by kernel_rfl) (hJ.valOf (by decide) (AZ AJ 2 (by kernel_rfl)) rfl rfl)
    have e1:a.eval (.tmp 24)=(.int .i64 (s.row:Nat)):=AU (j:=4) (by kernel_rfl) (hJ.valOf (by decide) (AZ AJ 4 (by kernel_rfl)) rfl rfl)
    have e2:a.eval (.tmp 26)=(.int .i64 (s.bot:Nat)):=AU (j:=6) (by kernel_rfl) (hJ.valOf (by decide) (AZ AJ 6 (by kernel_rfl)) rfl rfl)
    have e3:a.eval (.tmp 27)=(.int .i64 (m:Nat)):=AU (j:=7) (by kernel_rfl) (hJ.valOf (by decide) (AZ AJ 7 (by kernel_rfl)) rfl rfl)
    have e4:a.eval (.tmp 29)=(.agg #[.int .i64 (-1),.int .i64 s.pen.2.1,.int .i64 0]):=AU (j:=9) (by kernel_rfl) (hJ.valOf (by decide) (AZ AJ 9 (by kernel_rfl)) rfl rfl)
    have e5:a.eval (.tmp 20)=(.func (.func 190) #[] #[]):=AU (j:=0) (by kernel_rfl) (hJ.valOf (by decide) (AZ AJ 0 (by kernel_rfl)) rfl rfl)
    refine Step.call _ rfl rfl (AV rfl) 190 #[.agg #[.int .i64 (s.g.rows:Nat),.int .i64 (s.g.AB:Nat),.slice A (s.g.rows*s.g.AB) cp],.int .i64 (s.row:Nat),.int .i64 (s.bot:Nat),.int .i64 (m:Nat),.agg #[.int .i64 (-1),.int .i64 s.pen.2.1,.int .i64 0]] (fun ρ hρ=>?_) ?_
    ·skip
     rw [hρ] at e0 e1 e2 e3 e4 e5
     clear hJ hsame AJ hcl hρ hsz hb
     go_simp
    ·refine(SCX.out _ hb).mono ?_
     rintro e w2 ⟨v,rfl,⟨y,rfl,ho⟩,bb⟩
     obtain⟨A8,c8,rfl⟩:=Ad (G:=T) ⟨_,rfl,ho⟩
     exact⟨_,rfl,hJ.pred hGS hcl hL rfl bb _ ⟨A8,c8,rfl,ho⟩⟩
   ·intro L a w' hL hsame hsz hJ AJ hcl
    refine BG hJ hGS hcl hL 3 (.pointer (some ⟨g,0,none⟩)) (.pointer (some ⟨g,0,none⟩)) (AY hsame (by kernel_rfl)) _ rfl rfl rfl rfl rfl fun ρ _ e0=>?_
    clear hJ hsame AJ hcl hsz
    go_simp
   ·intro L u w' hF hall
    change wpList _ _ _ _ (Act.put (Act.put (Act.put (Act.put (Act.put (Act.put (Act.put (Act.put (Act.put (Act.put (Act.put (Act.put (Act.put (Az _ u 0 _) (some 20) (u 0)) (some 21) (u 1)) (some 22) (u 2)) (some 23) (u 3)) (some 24) (u 4)) (some 25) (u 5)) (some 26) (u 6)) (some 27) (u 7)) (some 28) (u 8)) (some 29) (u 9)) (some 30) (u 10)) (some 31) (u 11)) none (u 12)) _
    simp only [Az]
    obtain⟨A4,c4,f10,ho4⟩:=(show Ea T (u 10) w' from hF.Cy (j:=10) (by decide) (hall 10 (by decide)) rfl)
    have f11:u 11=.pointer (some ⟨g,0,none⟩):=hF.valOf (j:=11) (by decide) (hall 11 (by decide)) rfl rfl
    have hk:=hF.kept.toBelow (Nat.le_refl _) (by simp)
    clear hF
    generalize u 0=z0
    generalize u 1=z1
    generalize u 2=z2
    generalize u 3=z3
    generalize u 4=z4
    generalize u 5=z5
    generalize u 6=z6
    generalize u 7=z7
    generalize u 8=z8
    generalize u 9=z9
    generalize u 10=z10 at f10⊢
    generalize u 11=z11 at f11⊢
    generalize u 12=z12
    subst f10 f11
    simp only [List.drop_succ_cons,List.drop_zero]
    refine Cc (y:=.slice A4 (T.rows*T.AB) c4) (G:=T) (HB2.out.below hk HB2.out.lt) rfl _ _ rfl (by go_simp) (by go_simp;rfl) rfl ?_
    intro w8 hB8 hk8 hs8
    change Exit.then _ _ Exit.normal _ _
    go_simp
    go_step
    go_meet
    have hw:=HW2.out.trans (hk.mono HW2.out.size)
    exact⟨A4,c4,hB8,hw.trans (hk8.toBelow hw.size (fun k hh=>by simp at hh;omega)),(HR2.out.below hk HR2.out.lt).kept hk8 (by simp;exact hne),IsG.kept (G:=T) ⟨_,rfl,ho4⟩ (HB2.out.below hk HB2.out.lt) (by decide) hk8⟩
  case rest=>
   obtain⟨A4,c4,hB4,hW4,hR4,hG4⟩:=hcut
   rename World=>w5
   have HB5:=hide hB4
   have HR5:=hide hR4
   have HW5:=hide hW4
   have HG5:=hide hG4
   clear hB4 hW4 hR4 hG4 k3 k6 k7 HB2 HR2 HW2 HG2
   go_wp2_with (refine AX HB5.out rfl _ rfl rfl ?_)
   refine(AT.out _ _ ⟨_,rfl,HG5.out⟩).mono (Al HR5 HW5 fun A7 c7 w7 HR7 HW7 HG7=>?_)
   clear HB5 HR5 HW5 HG5
   go_wp2_with (refine AQ HR7.out hsR rfl _ _ rfl rfl rfl rfl ?_;intro w8 hB8 hk8 hs8)
   exact BX rfl rfl rfl hB8 HG7 HR7 HW7 hk8 Ai
 ·rw [if_neg hin] at ht
  have HTE:=hide ht
  unfold SN.InM at hin
  by_cases q1:(s.row:Int)<(s.top:Int)
  ·clear ht hs hg hin
   go_enter Tryz.func196,Tryz.ntmps196
   go_upto_region 1 with (refine Bc HG _ rfl rfl rfl rfl rfl ?_;intro g gR w2 csR hsR HB2 HW2 HR2 HG2 hne hg1 Ai)
   clear HG
   have k3:=HB2.out.c3
   have k6:=HB2.out.c6
   have k7:=HB2.out.c7
   go_wp2_with (first | (refine AX HB2.out rfl _ rfl rfl ?_) | (refine AQ HR2.out hsR rfl _ _ rfl rfl rfl rfl ?_;intro w8 hB8 hk8 hs8))
   have htt:=HTE.out
   subst htt
   exact BX rfl rfl rfl hB8 HG2 HR2 HW2 hk8 Ai
  ·have q2:(s.bot:Int)<(s.row:Int):=by omega
   clear ht hs hg hin
   go_enter Tryz.func196,Tryz.ntmps196
   go_upto_region 1 with (refine Bc HG _ rfl rfl rfl rfl rfl ?_;intro g gR w2 csR hsR HB2 HW2 HR2 HG2 hne hg1 Ai)
   clear HG
   have k3:=HB2.out.c3
   have k6:=HB2.out.c6
   have k7:=HB2.out.c7
   go_wp2_with (first | (refine AX HB2.out rfl _ rfl rfl ?_) | (refine AQ HR2.out hsR rfl _ _ rfl rfl rfl rfl ?_;intro w8 hB8 hk8 hs8))
   have htt:=HTE.out
   subst htt
   exact BX rfl rfl rfl hB8 HG2 HR2 HW2 hk8 Ai
theorem Xd (s t:SN.Sc) (v:Value) (m:Nat) (w:World) (hs:SN.Ac s) (hm:m<=65535) (ht:(if SN.InM s then SN.atS (s.uG (PG.Am s.g s.row s.bot ((m:Int)) (SN.BI s))) s.row 0 else s)=t) (h:IsS w s v):Calls Tryz.prog 196 #[v,.int .i64 m,.func (.func 110) #[] #[]] w (BD w t):=by
 obtain⟨x,rfl,hg⟩:=h
 obtain⟨A,cp,rfl⟩:=Ad hg
 have HG:=hide hg
 have hgr:=hs.g.2.1
 have hgc:=hs.g.2.2.2.1
 have hR1:=hs.g.1
 have hK1:=hs.g.2.2.1
 have hrow:=hs.row
 have CJ:=hs.col
 have htop:=SN.DZ hs
 have JQ:=hs.bot
 by_cases hin:SN.InM s
 ·rw [if_pos hin] at ht
  obtain⟨hi1,hi2⟩:=hin
  have q1: ¬(s.row:Int)<(s.top:Int):=by omega
  have q2: ¬(s.bot:Int)<(s.row:Int):=by omega
  have FL:=hide (fun w'=>Ic s (.slice A (s.g.rows*s.g.AB) cp) w')
  have SI:PG.DI s.g s.row s.bot ((m:Int)) (SN.BI s)=PG.Am s.g s.row s.bot ((m:Int)) (SN.BI s):=(if_pos ⟨by omega,by omega⟩).trans (by simp)
  have SC0:=fun (w':World) (hb:Below w.heap.size w w')=>mY (w:=w') hs.g (hg.low hb) s.row s.bot m (SN.BI s) (SN.Bz hs) (by omega) (by omega) (by omega)
  rw [SI] at SC0
  have hsz:=PG.Dq s.g s.row s.bot ((m:Int)) (SN.BI s)
  have hRT:SN.Ac (s.uG (PG.Am s.g s.row s.bot ((m:Int)) (SN.BI s))):=SN.Fv hs (PG.Ey hs.g (SN.Bz hs) _ _ _) hsz.1 hsz.2
  generalize PG.Am s.g s.row s.bot ((m:Int)) (SN.BI s)=T at SC0 ht hRT
  have SC:=hide (fun w' (hb:Below w.heap.size w w')=>(show Calls Tryz.prog 110 #[.agg #[.int .i64 s.g.rows,.int .i64 s.g.AB,.slice A (s.g.rows*s.g.AB) cp],.int .i64 s.row,.int .i64 s.bot,.int .i64 m,.agg #[.int .i64 (-1),.int .i64 s.pen.2.1,.int .i64 0]] w' (Dk w' T) from SC0 w' hb))
  have AT:=hide (fun w' v' h=>(show Calls Tryz.prog 134 #[v'] w' (BD w' t) from FU (s.uG T) t v' w' hRT ht h))
  clear SC0 SI ht hs hg hRT hsz
  go_enter Tryz.func196,Tryz.ntmps196
  go_upto_region 1 with (refine Bc HG _ rfl rfl rfl rfl rfl ?_;intro g gR w2 csR hsR HB2 HW2 HR2 HG2 hne hg1 Ai)
  clear HG
  have k3:=HB2.out.c3
  have k6:=HB2.out.c6
  have k7:=HB2.out.c7
  go_upto_region 3 with fail
  have SCX:=hide (fun w' (hb:Below w2.heap.size w2 w')=>SC.out w' (HW2.out.trans (hb.mono HW2.out.size)))
  clear SC
  go_simp
  go_cut [] from 20 to 32 (fun wx=> ∃A4 c4,Ak wx g (.slice A4 (T.rows*T.AB) c4) (s.uG T)/\Below w.heap.size w wx/\Box wx gR 43 csR/\IsG wx T (gv T.rows T.AB (.slice A4 (T.rows*T.AB) c4)))
  case first=>
   refine Bh (n:=34) 12 [] (fun _=> #[]) [(0,0,0,0,0),(0,0,0,0,0),(0,0,0,0,0),(0,0,0,0,0),(0,0,0,0,0),(0,0,0,0,0),(0,0,0,0,0),(0,0,0,0,0),(0,0,0,0,0),(0,0,0,0,0),(1,0,0,0,0),(0,0,0,0,0),(0,0,0,0,0)] (fun j=> [(.func (.func 110) #[] #[]),(.pointer (some ⟨g,0,none⟩)),(.agg #[.int .i64 (s.g.rows:Nat),.int .i64 (s.g.AB:Nat),.slice A (s.g.rows*s.g.AB) cp]),(.pointer (some ⟨g,3,none⟩)),(.int .i64 (s.row:Nat)),(.pointer (some ⟨g,7,none⟩)),(.int .i64 (s.bot:Nat)),(.int .i64 (m:Nat)),(.agg (scA (.slice A (s.g.rows*s.g.AB) cp) s)),(.agg #[.int .i64 (-1),.int .i64 s.pen.2.1,.int .i64 0]),undef,(.pointer (some ⟨g,0,none⟩)),undef].getD j undef) [none,none,none,none,none,none,none,none,none,none,some (Ea T)] (fun _=>0) (by kernel_rfl) (by kernel_rfl) (by kernel_rfl) rfl (by kernel_rfl) (by kernel_rfl) (Dt rfl) (fun i j h=>by revert h;exact Dt (p:=fun _=>_) rfl i) (Aj.none_ (Aj.none_ (Aj.none_ (Aj.none_ (Aj.none_ (Aj.none_ (Aj.none_ (Aj.none_ (Aj.none_ (Aj.none_ (Aj.some_ (Ea.stays (by kernel_rfl)) (Aj.nil _)))))))))))) (fun hGS=>GL ⟨?_,?_,?_,?_,?_,?_,?_,?_,?_,?_,?_,?_⟩) ?_
   ·intro L a w' hL hsame hsz hJ AJ hcl
    refine BG hJ hGS hcl hL 2 (.func (.func 110) #[] #[]) (.func (.func 110) #[] #[]) (AY hsame (by kernel_rfl)) _ rfl rfl rfl rfl rfl fun ρ _ e0=>?_
    clear hJ hsame AJ hcl hsz
    go_simp
   ·intro L a w' hL hsame hsz hJ AJ hcl
    refine BG hJ hGS hcl hL 3 (.pointer (some ⟨g,0,none⟩)) (.pointer (some ⟨g,0,none⟩)) (AY hsame (by kernel_rfl)) _ rfl rfl rfl rfl rfl fun ρ _ e0=>?_
    clear hJ hsame AJ hcl hsz
    go_simp
   ·intro L a w' hL hsame hsz hJ AJ hcl
    have hx:=hJ.Ah ((show Box w2 g 43 (scA (.slice A (s.g.rows*s.g.AB) cp) s) from HB2.out)) (by simp)
    have q0:w'.cell? ⟨g,0,none⟩=some (.int .i64 (s.g.rows:Nat)):=hx.cell 0
    have q1:w'.cell? ⟨g,1,none⟩=some (.int .i64 (s.g.AB:Nat)):=hx.cell 1
    have q2:w'.cell? ⟨g,2,none⟩=some (.slice A (s.g.rows*s.g.AB) cp):=hx.cell 2
    refine BG hJ hGS hcl hL 21 (.pointer (some ⟨g,0,none⟩)) (.agg #[.int .i64 (s.g.rows:Nat),.int .i64 (s.g.AB:Nat),.slice A (s.g.rows*s.g.AB) cp]) (gslot hJ AJ 1 (by kernel_rfl) (by kernel_rfl) (by decide) rfl rfl) _ rfl rfl rfl rfl rfl fun ρ _ e0=>?_
    clear hJ hsame AJ hcl hsz hx
    go_simp
   ·intro L a w' hL hsame hsz hJ AJ hcl
    refine BG hJ hGS hcl hL 3 (.pointer (some ⟨g,0,none⟩)) (.pointer (some ⟨g,3,none⟩)) (AY hsame (by kernel_rfl)) _ rfl rfl rfl rfl rfl fun ρ _ e0=>?_
    clear hJ hsame AJ hcl hsz
    go_simp
   ·intro L a w' hL hsame hsz hJ AJ hcl
    have q0:w'.cell? ⟨g,3,none⟩=some (.int .i64 (s.row:Nat)):=(hJ.Ah ((show Box w2 g 43 (scA (.slice A (s.g.rows*s.g.AB) cp) s) from HB2.out)) (by simp)).cell 3
    refine BG hJ hGS hcl hL 23 (.pointer (some ⟨g,3,none⟩)) (.int .i64 (s.row:Nat)) (gslot hJ AJ 3 (by kernel_rfl) (by kernel_rfl) (by decide) rfl rfl) _ rfl rfl rfl rfl rfl fun ρ _ e0=>?_
    clear hJ hsame AJ hcl hsz
    go_simp
   ·intro L a w' hL hsame hsz hJ AJ hcl
    refine BG hJ hGS hcl hL 3 (.pointer (some ⟨g,0,none⟩)) (.pointer (some ⟨g,7,none⟩)) (AY hsame (by kernel_rfl)) _ rfl rfl rfl rfl rfl fun ρ _ e0=>?_
    clear hJ hsame AJ hcl hsz
    go_simp
   ·intro L a w' hL hsame hsz hJ AJ hcl
    have q0:w'.cell? ⟨g,7,none⟩=some (.int .i64 (s.bot:Nat)):=(hJ.Ah ((show Box w2 g 43 (scA (.slice A (s.g.rows*s.g.AB) cp) s) from HB2.out)) (by simp)).cell 7
    refine BG hJ hGS hcl hL 25 (.pointer (some ⟨g,7,none⟩)) (.int .i64 (s.bot:Nat)) (gslot hJ AJ 5 (by kernel_rfl) (by kernel_rfl) (by decide) rfl rfl) _ rfl rfl rfl rfl rfl fun ρ _ e0=>?_
    clear hJ hsame AJ hcl hsz
    go_simp
   ·intro L a w' hL hsame hsz hJ AJ hcl
    refine BG hJ hGS hcl hL 1 (.int .i64 (m:Nat)) (.int .i64 (m:Nat)) (AY hsame (by kernel_rfl)) _ rfl rfl rfl rfl rfl fun ρ _ e0=>?_
    clear hJ hsame AJ hcl hsz
    go_simp
   ·intro L a w' hL hsame hsz hJ AJ hcl
    have hb:=hJ.kept.toBelow (Nat.le_refl _) (by simp)
    have e0:a.eval (.tmp 3)=(.pointer (some ⟨g,0,none⟩)):=AY hsame (by kernel_rfl)
    have hx:=hJ.Ah ((show Box w2 g 43 (scA (.slice A (s.g.rows*s.g.AB) cp) s) from HB2.out)) (by simp)
    exact Step.val _ rfl rfl (AV rfl) (.agg (scA (.slice A (s.g.rows*s.g.AB) cp) s)) w' (fun ρ hρ=>Aq hx rfl ρ _ rfl ((hρ _).symm.trans e0)) (hJ.val hGS hcl hL rfl (Below.refl _ _) _ rfl)
   ·intro L a w' hL hsame hsz hJ AJ hcl
    have hb:=hJ.kept.toBelow (Nat.le_refl _) (by simp)
    have e0:a.eval (.tmp 28)=(.agg (scA (.slice A (s.g.rows*s.g.AB) cp) s)):=AU (j:=8) (by kernel_rfl) (hJ.valOf (by decide) (AZ AJ 8 (by kernel_rfl)) rfl rfl)
    refine Step.call _ rfl rfl (AV rfl) 111 #[.agg (scA (.slice A (s.g.rows*s.g.AB) cp) s)] (fun ρ hρ=>?_) ?_
    ·skip
     rw [hρ] at e0
     have ef:ρ (.func 111)=.func (.func 111) #[] #[] :=(hρ _).symm
     clear hJ hsame AJ hcl hρ hsz hb
     go_simp
    ·refine(FL.out _).mono ?_
     rintro e w2 ⟨rfl,bb⟩
     exact⟨_,rfl,hJ.val hGS hcl hL rfl bb _ rfl⟩
   ·intro L a w' hL hsame hsz hJ AJ hcl
    have hb:=hJ.kept.toBelow (Nat.le_refl _) (by simp)
    have e0:a.eval (.tmp 22)=(.agg #[.int .i64 (s.g.rows:Nat),.int .i64 (s.g.AB:Nat),.slice A (s.g.rows*s.g.AB) cp]):=AU (j:=2) (by kernel_rfl) (hJ.valOf (by decide) (AZ AJ 2 (by kernel_rfl)) rfl rfl)
    have e1:a.eval (.tmp 24)=(.int .i64 (s.row:Nat)):=AU (j:=4) (by kernel_rfl) (hJ.valOf (by decide) (AZ AJ 4 (by kernel_rfl)) rfl rfl)
    have e2:a.eval (.tmp 26)=(.int .i64 (s.bot:Nat)):=AU (j:=6) (by kernel_rfl) (hJ.valOf (by decide) (AZ AJ 6 (by kernel_rfl)) rfl rfl)
    have e3:a.eval (.tmp 27)=(.int .i64 (m:Nat)):=AU (j:=7) (by kernel_rfl) (hJ.valOf (by decide) (AZ AJ 7 (by kernel_rfl)) rfl rfl)
    have e4:a.eval (.tmp 29)=(.agg #[.int .i64 (-1),.int .i64 s.pen.2.1,.int .i64 0]):=AU (j:=9) (by kernel_rfl) (hJ.valOf (by decide) (AZ AJ 9 (by kernel_rfl)) rfl rfl)
    have e5:a.eval (.tmp 20)=(.func (.func 110) #[] #[]):=AU (j:=0) (by kernel_rfl) (hJ.valOf (by decide) (AZ AJ 0 (by kernel_rfl)) rfl rfl)
    refine Step.call _ rfl rfl (AV rfl) 110 #[.agg #[.int .i64 (s.g.rows:Nat),.int .i64 (s.g.AB:Nat),.slice A (s.g.rows*s.g.AB) cp],.int .i64 (s.row:Nat),.int .i64 (s.bot:Nat),.int .i64 (m:Nat),.agg #[.int .i64 (-1),.int .i64 s.pen.2.1,.int .i64 0]] (fun ρ hρ=>?_) ?_
    ·skip
     rw [hρ] at e0 e1 e2 e3 e4 e5
     clear hJ hsame AJ hcl hρ hsz hb
     go_simp
    ·refine(SCX.out _ hb).mono ?_
     rintro e w2 ⟨v,rfl,⟨y,rfl,ho⟩,bb⟩
     obtain⟨A8,c8,rfl⟩:=Ad (G:=T) ⟨_,rfl,ho⟩
     exact⟨_,rfl,hJ.pred hGS hcl hL rfl bb _ ⟨A8,c8,rfl,ho⟩⟩
   ·intro L a w' hL hsame hsz hJ AJ hcl
    refine BG hJ hGS hcl hL 3 (.pointer (some ⟨g,0,none⟩)) (.pointer (some ⟨g,0,none⟩)) (AY hsame (by kernel_rfl)) _ rfl rfl rfl rfl rfl fun ρ _ e0=>?_
    clear hJ hsame AJ hcl hsz
    go_simp
   ·intro L u w' hF hall
    change wpList _ _ _ _ (Act.put (Act.put (Act.put (Act.put (Act.put (Act.put (Act.put (Act.put (Act.put (Act.put (Act.put (Act.put (Act.put (Az _ u 0 _) (some 20) (u 0)) (some 21) (u 1)) (some 22) (u 2)) (some 23) (u 3)) (some 24) (u 4)) (some 25) (u 5)) (some 26) (u 6)) (some 27) (u 7)) (some 28) (u 8)) (some 29) (u 9)) (some 30) (u 10)) (some 31) (u 11)) none (u 12)) _
    simp only [Az]
    obtain⟨A4,c4,f10,ho4⟩:=(show Ea T (u 10) w' from hF.Cy (j:=10) (by decide) (hall 10 (by decide)) rfl)
    have f11:u 11=.pointer (some ⟨g,0,none⟩):=hF.valOf (j:=11) (by decide) (hall 11 (by decide)) rfl rfl
    have hk:=hF.kept.toBelow (Nat.le_refl _) (by simp)
    clear hF
    generalize u 0=z0
    generalize u 1=z1
    generalize u 2=z2
    generalize u 3=z3
    generalize u 4=z4
    generalize u 5=z5
    generalize u 6=z6
    generalize u 7=z7
    generalize u 8=z8
    generalize u 9=z9
    generalize u 10=z10 at f10⊢
    generalize u 11=z11 at f11⊢
    generalize u 12=z12
    subst f10 f11
    simp only [List.drop_succ_cons,List.drop_zero]
    refine Cc (y:=.slice A4 (T.rows*T.AB) c4) (G:=T) (HB2.out.below hk HB2.out.lt) rfl _ _ rfl (by go_simp) (by go_simp;rfl) rfl ?_
    intro w8 hB8 hk8 hs8
    change Exit.then _ _ Exit.normal _ _
    go_simp
    go_step
    go_meet
    have hw:=HW2.out.trans (hk.mono HW2.out.size)
    exact⟨A4,c4,hB8,hw.trans (hk8.toBelow hw.size (fun k hh=>by simp at hh;omega)),(HR2.out.below hk HR2.out.lt).kept hk8 (by simp;exact hne),IsG.kept (G:=T) ⟨_,rfl,ho4⟩ (HB2.out.below hk HB2.out.lt) (by decide) hk8⟩
  case rest=>
   obtain⟨A4,c4,hB4,hW4,hR4,hG4⟩:=hcut
   rename World=>w5
   have HB5:=hide hB4
   have HR5:=hide hR4
   have HW5:=hide hW4
   have HG5:=hide hG4
   clear hB4 hW4 hR4 hG4 k3 k6 k7 HB2 HR2 HW2 HG2
   go_wp2_with (refine AX HB5.out rfl _ rfl rfl ?_)
   refine(AT.out _ _ ⟨_,rfl,HG5.out⟩).mono (Al HR5 HW5 fun A7 c7 w7 HR7 HW7 HG7=>?_)
   clear HB5 HR5 HW5 HG5
   go_wp2_with (refine AQ HR7.out hsR rfl _ _ rfl rfl rfl rfl ?_;intro w8 hB8 hk8 hs8)
   exact BX rfl rfl rfl hB8 HG7 HR7 HW7 hk8 Ai
 ·rw [if_neg hin] at ht
  have HTE:=hide ht
  unfold SN.InM at hin
  by_cases q1:(s.row:Int)<(s.top:Int)
  ·clear ht hs hg hin
   go_enter Tryz.func196,Tryz.ntmps196
   go_upto_region 1 with (refine Bc HG _ rfl rfl rfl rfl rfl ?_;intro g gR w2 csR hsR HB2 HW2 HR2 HG2 hne hg1 Ai)
   clear HG
   have k3:=HB2.out.c3
   have k6:=HB2.out.c6
   have k7:=HB2.out.c7
   go_wp2_with (first | (refine AX HB2.out rfl _ rfl rfl ?_) | (refine AQ HR2.out hsR rfl _ _ rfl rfl rfl rfl ?_;intro w8 hB8 hk8 hs8))
   have htt:=HTE.out
   subst htt
   exact BX rfl rfl rfl hB8 HG2 HR2 HW2 hk8 Ai
  ·have q2:(s.bot:Int)<(s.row:Int):=by omega
   clear ht hs hg hin
   go_enter Tryz.func196,Tryz.ntmps196
   go_upto_region 1 with (refine Bc HG _ rfl rfl rfl rfl rfl ?_;intro g gR w2 csR hsR HB2 HW2 HR2 HG2 hne hg1 Ai)
   clear HG
   have k3:=HB2.out.c3
   have k6:=HB2.out.c6
   have k7:=HB2.out.c7
   go_wp2_with (first | (refine AX HB2.out rfl _ rfl rfl ?_) | (refine AQ HR2.out hsR rfl _ _ rfl rfl rfl rfl ?_;intro w8 hB8 hk8 hs8))
   have htt:=HTE.out
   subst htt
   exact BX rfl rfl rfl hB8 HG2 HR2 HW2 hk8 Ai
theorem Xe (s t:SN.Sc) (v:Value) (kd rn pv it fn:Int) (Ae:Option Addr) (n c B:Nat) (tx:ByteArray) (l:List Int) (w:World) (hs:SN.Ac s) (hl:Seen w B Ae n (l.map (Value.int .i64))) (hB:B<=w.heap.size) (hn:n<=100) (hnc:n<=c) (hlb: ∀x∈l, -1<=x/\x<=65535) (hF:Df w) (ht:SN.Fu s fn l=t) (h:IsS w s v):Calls Tryz.prog 172 #[v,.agg #[.int .i64 kd,.int .i32 rn,.int .u8 pv,.int .u8 it,.int .u8 fn,.slice Ae n c,.string tx]] w (BD w t):=by
 obtain⟨x,rfl,hg⟩:=h
 obtain⟨A,cp,rfl⟩:=Ad hg
 have HG:=hide hg
 have hgr:=hs.g.2.1
 have hgc:=hs.g.2.2.2.1
 have hR1:=hs.g.1
 have hK1:=hs.g.2.2.1
 have hrow:=hs.row
 have CJ:=hs.col
 have htop:=SN.DZ hs
 have JQ:=hs.bot
 have a0:=SN.LG hlb 0
 obtain⟨m,hm⟩: ∃m:Nat,SN.Bd l 0 1=(m:Int):=⟨(SN.Bd l 0 1).toNat,by omega⟩
 have hm1:1<=m/\m<=65535:=by omega
 obtain⟨k,hkk⟩: ∃k,SN.Bd l 0 0=k:=⟨_,rfl⟩
 have hkb:0<=k/\k<=65535:=by
  rw [<- hkk]
  unfold SN.Bd
  rcases Ig hlb 0 with ⟨_,e⟩ | ⟨_,h1,h2⟩
  ·rw [e]
   simp
  ·split<;>omega
 have hmt:SN.Bd l 0 1=m:=hm
 have HT0:=hide ht
 have EM:=hide hm
 have HS:=hide hs
 have HL:=hide hl
 have HLB:=hide hlb
 have HF:=hide hF
 have HG0:=hide hg
 have EKK:=hide hkk
 have NM:=hide (fun w' (hb:Below w.heap.size w w')=>(show Calls Tryz.prog 168 #[.agg #[.int .i64 kd,.int .i32 rn,.int .u8 pv,.int .u8 it,.int .u8 fn,.slice Ae n c,.string tx],.int .i64 0] w' (fun e w''=>e=.returned (.int .i64 (m:Nat))/\Below w'.heap.size w' w'') from Jv kd rn pv it fn Ae n c B tx l 0 _ hm w' (hl.below (hb.mono hB)) (Nat.le_trans hB hb.size) hlb))
 have FL:=hide (fun w'=>Ic s (.slice A (s.g.rows*s.g.AB) cp) w')
 clear ht hs hg hl hlb hm hmt hkk hF a0
 go_enter Tryz.func172,Tryz.ntmps172
 go_upto_region 1 with (refine Dw HG _ rfl rfl rfl _ rfl rfl (fun _=>rfl) rfl rfl ?_;intro g gE gR w2 csR hsR HB2 HE2 HW2 HR2 HG2 hne FM FN hg1 Ai)
 clear HG
 obtain⟨e0,e1,e2,e3,e4,e5,e6⟩:=HE2.out.Bo
 have NMX:=hide (fun w' (hb:Below w2.heap.size w2 w')=>NM.out w' (HW2.out.trans (hb.mono HW2.out.size)))
 clear NM
 go_upto_region 1 with fail
 clear e0 e1 e2 e3 e4 e5 e6
 go_simp
 go_cut [5,6] from 7 to 11 (fun ua ub wx=> ∃gP,ua=.int .i64 (m:Nat)/\ub=.pointer (some ⟨gP,0,none⟩)/\w2.heap.size<=gP/\Box wx gP 38 #[.int .i64 (-1),.int .i64 s.pen.2.1,.int .i64 0] /\Below w2.heap.size w2 wx)
 case first=>
  refine EI (n:=122) [] (fun _=> #[]) [(0,0,0,0,0),(0,0,0,0,0),(0,0,0,0,0),(0,0,0,0,0),(2,0,0,38,3),(0,0,0,0,0),(3,4,3,38,3)] (fun j=> [(.agg #[.int .i64 kd,.int .i32 rn,.int .u8 pv,.int .u8 it,.int .u8 fn,.slice Ae n c,.string tx]),(.int .i64 (m:Nat)),(.agg (scA (.slice A (s.g.rows*s.g.AB) cp) s)),(.agg #[.int .i64 (-1),.int .i64 s.pen.2.1,.int .i64 0]),undef,(.int .i64 (m:Nat)),undef].getD j undef) [] (fun _=>0) (by kernel_rfl) (by kernel_rfl) (by kernel_rfl) rfl (by kernel_rfl) (Dt rfl) (fun i j h=>by revert h;exact Dt (p:=fun _=>_) rfl i) (Aj.nil _) (fun hGS=>La ⟨?_,?_,?_,?_,?_,?_,?_⟩) ?_
  ·intro L a w' hL hsame hsz hJ AJ hcl
   have hx:=hJ.Ah ((show Box w2 gE 34 #[.int .i64 kd,.int .i32 rn,.int .u8 pv,.int .u8 it,.int .u8 fn,.slice Ae n c,.string tx] from HE2.out)) (by simp)
   have q0:w'.cell? ⟨gE,0,none⟩=some (.int .i64 kd):=hx.cell 0
   have q1:w'.cell? ⟨gE,1,none⟩=some (.int .i32 rn):=hx.cell 1
   have q2:w'.cell? ⟨gE,2,none⟩=some (.int .u8 pv):=hx.cell 2
   have q3:w'.cell? ⟨gE,3,none⟩=some (.int .u8 it):=hx.cell 3
   have q4:w'.cell? ⟨gE,4,none⟩=some (.int .u8 fn):=hx.cell 4
   have q5:w'.cell? ⟨gE,5,none⟩=some (.slice Ae n c):=hx.cell 5
   have q6:w'.cell? ⟨gE,6,none⟩=some (.string tx):=hx.cell 6
   refine BG hJ hGS hcl hL 3 (.pointer (some ⟨gE,0,none⟩)) (.agg #[.int .i64 kd,.int .i32 rn,.int .u8 pv,.int .u8 it,.int .u8 fn,.slice Ae n c,.string tx]) (AY hsame (by kernel_rfl)) _ rfl rfl rfl rfl rfl fun ρ _ e0=>?_
   clear hJ hsame AJ hcl hsz hx
   go_simp
  ·intro L a w' hL hsame hsz hJ AJ hcl
   have hb:=hJ.kept.toBelow (Nat.le_refl _) (by simp)
   have e0:a.eval (.tmp 7)=(.agg #[.int .i64 kd,.int .i32 rn,.int .u8 pv,.int .u8 it,.int .u8 fn,.slice Ae n c,.string tx]):=AU (j:=0) (by kernel_rfl) (hJ.valOf (by decide) (AZ AJ 0 (by kernel_rfl)) rfl rfl)
   refine Step.call _ rfl rfl (AV rfl) 168 #[.agg #[.int .i64 kd,.int .i32 rn,.int .u8 pv,.int .u8 it,.int .u8 fn,.slice Ae n c,.string tx],.int .i64 0] (fun ρ hρ=>?_) ?_
   ·skip
    rw [hρ] at e0
    have ec0:ρ (.const (.int .i64 0))=(.int .i64 0):=(hρ _).symm
    have ef:ρ (.func 168)=.func (.func 168) #[] #[] :=(hρ _).symm
    clear hJ hsame AJ hcl hρ hsz hb
    go_simp
   ·refine(NMX.out _ hb).mono ?_
    rintro e w2 ⟨rfl,bb⟩
    exact⟨_,rfl,hJ.val hGS hcl hL rfl bb _ rfl⟩
  ·intro L a w' hL hsame hsz hJ AJ hcl
   have hb:=hJ.kept.toBelow (Nat.le_refl _) (by simp)
   have e0:a.eval (.tmp 2)=(.pointer (some ⟨g,0,none⟩)):=AY hsame (by kernel_rfl)
   have hx:=hJ.Ah ((show Box w2 g 43 (scA (.slice A (s.g.rows*s.g.AB) cp) s) from HB2.out)) (by simp)
   exact Step.val _ rfl rfl (AV rfl) (.agg (scA (.slice A (s.g.rows*s.g.AB) cp) s)) w' (fun ρ hρ=>Aq hx rfl ρ _ rfl ((hρ _).symm.trans e0)) (hJ.val hGS hcl hL rfl (Below.refl _ _) _ rfl)
  ·intro L a w' hL hsame hsz hJ AJ hcl
   have hb:=hJ.kept.toBelow (Nat.le_refl _) (by simp)
   have e0:a.eval (.tmp 9)=(.agg (scA (.slice A (s.g.rows*s.g.AB) cp) s)):=AU (j:=2) (by kernel_rfl) (hJ.valOf (by decide) (AZ AJ 2 (by kernel_rfl)) rfl rfl)
   refine Step.call _ rfl rfl (AV rfl) 111 #[.agg (scA (.slice A (s.g.rows*s.g.AB) cp) s)] (fun ρ hρ=>?_) ?_
   ·skip
    rw [hρ] at e0
    have ef:ρ (.func 111)=.func (.func 111) #[] #[] :=(hρ _).symm
    clear hJ hsame AJ hcl hρ hsz hb
    go_simp
   ·refine(FL.out _).mono ?_
    rintro e w2 ⟨rfl,bb⟩
    exact⟨_,rfl,hJ.val hGS hcl hL rfl bb _ rfl⟩
  ·intro L a w' hL hsame hsz hJ AJ hcl
   have hb:=hJ.kept.toBelow (Nat.le_refl _) (by simp)
   refine Step.val _ rfl rfl (AV rfl) (.pointer (some ⟨w'.heap.size,0,none⟩)) (w'.alloc (.cells #[.int .i64 0,.int .i64 0,.int .i64 0] 38)) (fun ρ hρ=>?_) (hJ.box hGS hcl hL rfl 38 rfl #[.int .i64 0,.int .i64 0,.int .i64 0] rfl)
   clear hJ hsame AJ hcl hρ hsz hb
   go_simp
  ·intro L a w' hL hsame hsz hJ AJ hcl
   refine BG hJ hGS hcl hL 8 (.int .i64 (m:Nat)) (.int .i64 (m:Nat)) (gslot hJ AJ 1 (by kernel_rfl) (by kernel_rfl) (by decide) rfl rfl) _ rfl rfl rfl rfl rfl fun ρ _ e0=>?_
   clear hJ hsame AJ hcl hsz
   go_simp
  ·intro L a w' hL hsame hsz hJ AJ hcl
   have hb:=hJ.kept.toBelow (Nat.le_refl _) (by simp)
   have hsv:=hJ.valOf (j:=3) (by decide) (AZ AJ 3 (by kernel_rfl)) rfl rfl
   have es:a.eval (.tmp 10)=(.agg #[.int .i64 (-1),.int .i64 s.pen.2.1,.int .i64 0]):=AU (j:=3) (by kernel_rfl) hsv
   have la:=AZ AJ 4 (by kernel_rfl)
   obtain⟨g,cs,hg,hg0,hx,hs⟩:=hJ.jv (j:=4) (by decide) la rfl
   have ea:a.eval (.tmp 6)=.pointer (some ⟨g,0,none⟩):=AU (j:=4) (by kernel_rfl) hg
   obtain⟨m0,hm0⟩: ∃m,w'.cell? ⟨g,0,none⟩=some m:=⟨_,(hx.cell 0).trans (Array.getElem?_eq_getElem (by rw [hs];decide))⟩
   have hf0:=hx.frozen 0
   obtain⟨m1,hm1⟩: ∃m,w'.cell? ⟨g,1,none⟩=some m:=⟨_,(hx.cell 1).trans (Array.getElem?_eq_getElem (by rw [hs];decide))⟩
   have hf1:=hx.frozen 1
   obtain⟨m2,hm2⟩: ∃m,w'.cell? ⟨g,2,none⟩=some m:=⟨_,(hx.cell 2).trans (Array.getElem?_eq_getElem (by rw [hs];decide))⟩
   have hf2:=hx.frozen 2
   refine Step.skip _ rfl (AV rfl) (Gu w' g 0 [.int .i64 (-1),.int .i64 s.pen.2.1,.int .i64 0]) (fun ρ hρ=>?_) (hJ.put hGS hcl hL rfl la (AZ AJ 3 (by kernel_rfl)) hg rfl hsv)
   rw [hρ] at es ea
   clear hJ hsame AJ hcl hρ hsz hb hsv hx hs hg
   simp only [Gu]
   go_simp
  ·intro u w' hF
   change Exit.then _ _ Exit.normal (Act.put (Act.put (Act.put (Act.put (Act.put (Act.put (Act.put (Az _ u 0 _) (some 7) (u 0)) (some 8) (u 1)) (some 9) (u 2)) (some 10) (u 3)) (some 6) (u 4)) (some 5) (u 5)) none (u 6)) _
   simp only [Az]
   have f0:u 5=.int .i64 (m:Nat):=hF.Pz (j:=5) (by decide) rfl rfl
   obtain⟨gP,csP,vP,lP,_,_⟩:=(hF.all 4 (by decide) rfl).2.2.1 rfl
   obtain⟨gP0,csP',vP',fP,hBP⟩:=(hF.all 6 (by decide) rfl).2.2.2.1 rfl
   obtain rfl:gP0=gP:=by
    have:=vP'.symm.trans vP
    cases this
    rfl
   have fP3:u 3=.agg #[.int .i64 (-1),.int .i64 s.pen.2.1,.int .i64 0] :=hF.Pz (j:=3) (by decide) rfl rfl
   obtain rfl:csP'= #[.int .i64 (-1),.int .i64 s.pen.2.1,.int .i64 0] :=by
    have:=fP.symm.trans fP3
    cases this
    rfl
   have hk:=hF.kept.toBelow (Nat.le_refl _) (by simp)
   clear hF vP' fP
   generalize u 0=y0
   generalize u 1=y1
   generalize u 2=y2
   generalize u 3=y3 at fP3⊢
   generalize u 4=y4 at vP⊢
   generalize u 5=y5 at f0⊢
   generalize u 6=y6
   subst f0 fP3 vP
   go_simp
   go_step
   go_meet
   exact⟨gP0,rfl,rfl,lP,hBP,hk⟩
 case rest=>
  obtain⟨gP,rfl,rfl,lP,hBP,hb3⟩:=hcut
  rename World=>w3
  clear NMX FL
  have HP3:=hide hBP
  have neP:g≠gP:=by have:=HB2.out.lt;omega
  have neE:gE≠gP:=by have:=HE2.out.lt;omega
  have neR:gR≠gP:=by have:=HR2.out.lt;omega
  clear hBP lP
  obtain⟨HB3,HR3,HW3,HG3⟩:=Jo hb3 HB2 HR2 HW2 HG2
  have HE3:=hide (HE2.out.below hb3 HE2.out.lt)
  clear HB2 HR2 HW2 HG2 HE2 hb3
  by_cases f74:fn=74
  ·as_aux_lemma=>
   subst f74
   have ht:(s.uG (PG.Fh s.g s.row s.col (SN.Bd l 0 0) (SN.BI s))).u5 false=t:=HT0.out
   rw [EKK.out] at ht
   obtain⟨T,hT⟩: ∃T,PG.Fh s.g s.row s.col k (SN.BI s)=T:=⟨_,rfl⟩
   rw [hT] at ht
   have GC:=hide (fun w' (hb:Below w.heap.size w w')=>(show Calls Tryz.prog 193 #[.agg #[.int .i64 s.g.rows,.int .i64 s.g.AB,.slice A (s.g.rows*s.g.AB) cp],.int .i64 (s.row:Nat),.int .i64 (s.col:Nat),.int .i64 k,.agg #[.int .i64 (-1),.int .i64 s.pen.2.1,.int .i64 0]] w' (Dk w' T) from by
    have:=iQ (w:=w') HS.out.g (HG0.out.low hb) s.row s.col k (SN.BI s) (SN.Bz HS.out) (by omega) (by omega)
    skip
    rw [hT] at this
    exact this))
   have WC:=hide (fun w' (hb:Below w.heap.size w w') (AA:Option Addr) (cc:Nat) (ho:w'.ownsRow 0 66 5 (.slice AA (T.rows*T.AB) cc) (T.rows*T.AB) (Ag (PG.cells T)))=>(show Calls Tryz.prog 192 #[.agg (scA (.slice A (s.g.rows*s.g.AB) cp) s),.agg #[.int .i64 (T.rows:Nat),.int .i64 (T.AB:Nat),.slice AA (T.rows*T.AB) cc]] w' (BD w' t) from G7 s t _ _ T w' ht ⟨_,rfl,HG0.out.low hb⟩ ⟨_,rfl,ho⟩))
   have WH:=hide (fun w' (hb:Below w.heap.size w w')=>Mf kd rn pv it 74 Ae n c B tx l k EKK.out w' (HL.out.below (hb.mono hB)) (Nat.le_trans hB hb.size) HLB.out)
   clear HT0 ht hT
   obtain⟨e0,e1,e2,e3,e4,e5,e6⟩:=HE3.out.Bo
   go_upto_region 4 with fail
   clear e0 e1 e2 e3 e4 e5 e6
   have GCX:=hide (fun w' (hb:Below w3.heap.size w3 w')=>GC.out w' (HW3.out.trans (hb.mono HW3.out.size)))
   have WCX:=hide (fun w' (hb:Below w3.heap.size w3 w')=>WC.out w' (HW3.out.trans (hb.mono HW3.out.size)))
   have WHX:=hide (fun w' (hb:Below w3.heap.size w3 w')=>WH.out w' (HW3.out.trans (hb.mono HW3.out.size)))
   go_simp
   refine Bh (n:=122) 12 [] (fun _=> #[]) [(0,0,0,0,0),(0,0,0,0,0),(0,0,0,0,0),(0,0,0,0,0),(0,0,0,0,0),(0,0,0,0,0),(0,0,0,0,0),(0,0,0,0,0),(0,0,0,0,0),(0,0,0,0,0),(1,0,0,0,0),(1,0,0,0,0),(0,0,0,0,0)] (fun j=> [(.agg (scA (.slice A (s.g.rows*s.g.AB) cp) s)),(.pointer (some ⟨g,0,none⟩)),(.agg #[.int .i64 (s.g.rows:Nat),.int .i64 (s.g.AB:Nat),.slice A (s.g.rows*s.g.AB) cp]),(.pointer (some ⟨g,3,none⟩)),(.int .i64 (s.row:Nat)),(.pointer (some ⟨g,4,none⟩)),(.int .i64 (s.col:Nat)),(.agg #[.int .i64 kd,.int .i32 rn,.int .u8 pv,.int .u8 it,.int .u8 74,.slice Ae n c,.string tx]),(.int .i64 k),(.agg #[.int .i64 (-1),.int .i64 s.pen.2.1,.int .i64 0]),undef,undef,undef].getD j undef) [none,none,none,none,none,none,none,none,none,none,some (Ea T),some (C8 t)] (fun _=>0) (by kernel_rfl) (by kernel_rfl) (by kernel_rfl) rfl (by kernel_rfl) (by kernel_rfl) (Dt rfl) (fun i j h=>by revert h;exact Dt (p:=fun _=>_) rfl i) (Aj.none_ (Aj.none_ (Aj.none_ (Aj.none_ (Aj.none_ (Aj.none_ (Aj.none_ (Aj.none_ (Aj.none_ (Aj.none_ (Aj.some_ (Ea.stays (by kernel_rfl)) (Aj.some_ (C8.stays (by kernel_rfl)) (Aj.nil _))))))))))))) (fun hGS=>GL ⟨?_,?_,?_,?_,?_,?_,?_,?_,?_,?_,?_,?_⟩) ?_
   ·intro L a w' hL hsame hsz hJ AJ hcl
    have hb:=hJ.kept.toBelow (Nat.le_refl _) (by simp)
    have e0:a.eval (.tmp 2)=(.pointer (some ⟨g,0,none⟩)):=AY hsame (by kernel_rfl)
    have hx:=hJ.Ah ((show Box w3 g 43 (scA (.slice A (s.g.rows*s.g.AB) cp) s) from HB3.out)) (by simp)
    exact Step.val _ rfl rfl (AV rfl) (.agg (scA (.slice A (s.g.rows*s.g.AB) cp) s)) w' (fun ρ hρ=>Aq hx rfl ρ _ rfl ((hρ _).symm.trans e0)) (hJ.val hGS hcl hL rfl (Below.refl _ _) _ rfl)
   ·intro L a w' hL hsame hsz hJ AJ hcl
    refine BG hJ hGS hcl hL 2 (.pointer (some ⟨g,0,none⟩)) (.pointer (some ⟨g,0,none⟩)) (AY hsame (by kernel_rfl)) _ rfl rfl rfl rfl rfl fun ρ _ e0=>?_
    clear hJ hsame AJ hcl hsz
    go_simp
   ·intro L a w' hL hsame hsz hJ AJ hcl
    have hx:=hJ.Ah ((show Box w3 g 43 (scA (.slice A (s.g.rows*s.g.AB) cp) s) from HB3.out)) (by simp)
    have q0:w'.cell? ⟨g,0,none⟩=some (.int .i64 (s.g.rows:Nat)):=hx.cell 0
    have q1:w'.cell? ⟨g,1,none⟩=some (.int .i64 (s.g.AB:Nat)):=hx.cell 1
    have q2:w'.cell? ⟨g,2,none⟩=some (.slice A (s.g.rows*s.g.AB) cp):=hx.cell 2
    refine BG hJ hGS hcl hL 16 (.pointer (some ⟨g,0,none⟩)) (.agg #[.int .i64 (s.g.rows:Nat),.int .i64 (s.g.AB:Nat),.slice A (s.g.rows*s.g.AB) cp]) (gslot hJ AJ 1 (by kernel_rfl) (by kernel_rfl) (by decide) rfl rfl) _ rfl rfl rfl rfl rfl fun ρ _ e0=>?_
    clear hJ hsame AJ hcl hsz hx
    go_simp
   ·intro L a w' hL hsame hsz hJ AJ hcl
    refine BG hJ hGS hcl hL 2 (.pointer (some ⟨g,0,none⟩)) (.pointer (some ⟨g,3,none⟩)) (AY hsame (by kernel_rfl)) _ rfl rfl rfl rfl rfl fun ρ _ e0=>?_
    clear hJ hsame AJ hcl hsz
    go_simp
   ·intro L a w' hL hsame hsz hJ AJ hcl
    have q0:w'.cell? ⟨g,3,none⟩=some (.int .i64 (s.row:Nat)):=(hJ.Ah ((show Box w3 g 43 (scA (.slice A (s.g.rows*s.g.AB) cp) s) from HB3.out)) (by simp)).cell 3
    refine BG hJ hGS hcl hL 18 (.pointer (some ⟨g,3,none⟩)) (.int .i64 (s.row:Nat)) (gslot hJ AJ 3 (by kernel_rfl) (by kernel_rfl) (by decide) rfl rfl) _ rfl rfl rfl rfl rfl fun ρ _ e0=>?_
    clear hJ hsame AJ hcl hsz
    go_simp
   ·intro L a w' hL hsame hsz hJ AJ hcl
    refine BG hJ hGS hcl hL 2 (.pointer (some ⟨g,0,none⟩)) (.pointer (some ⟨g,4,none⟩)) (AY hsame (by kernel_rfl)) _ rfl rfl rfl rfl rfl fun ρ _ e0=>?_
    clear hJ hsame AJ hcl hsz
    go_simp
   ·intro L a w' hL hsame hsz hJ AJ hcl
    have q0:w'.cell? ⟨g,4,none⟩=some (.int .i64 (s.col:Nat)):=(hJ.Ah ((show Box w3 g 43 (scA (.slice A (s.g.rows*s.g.AB) cp) s) from HB3.out)) (by simp)).cell 4
    refine BG hJ hGS hcl hL 20 (.pointer (some ⟨g,4,none⟩)) (.int .i64 (s.col:Nat)) (gslot hJ AJ 5 (by kernel_rfl) (by kernel_rfl) (by decide) rfl rfl) _ rfl rfl rfl rfl rfl fun ρ _ e0=>?_
    clear hJ hsame AJ hcl hsz
    go_simp
   ·intro L a w' hL hsame hsz hJ AJ hcl
    have hx:=hJ.Ah ((show Box w3 gE 34 #[.int .i64 kd,.int .i32 rn,.int .u8 pv,.int .u8 it,.int .u8 74,.slice Ae n c,.string tx] from HE3.out)) (by simp)
    have q0:w'.cell? ⟨gE,0,none⟩=some (.int .i64 kd):=hx.cell 0
    have q1:w'.cell? ⟨gE,1,none⟩=some (.int .i32 rn):=hx.cell 1
    have q2:w'.cell? ⟨gE,2,none⟩=some (.int .u8 pv):=hx.cell 2
    have q3:w'.cell? ⟨gE,3,none⟩=some (.int .u8 it):=hx.cell 3
    have q4:w'.cell? ⟨gE,4,none⟩=some (.int .u8 74):=hx.cell 4
    have q5:w'.cell? ⟨gE,5,none⟩=some (.slice Ae n c):=hx.cell 5
    have q6:w'.cell? ⟨gE,6,none⟩=some (.string tx):=hx.cell 6
    refine BG hJ hGS hcl hL 3 (.pointer (some ⟨gE,0,none⟩)) (.agg #[.int .i64 kd,.int .i32 rn,.int .u8 pv,.int .u8 it,.int .u8 74,.slice Ae n c,.string tx]) (AY hsame (by kernel_rfl)) _ rfl rfl rfl rfl rfl fun ρ _ e0=>?_
    clear hJ hsame AJ hcl hsz hx
    go_simp
   ·intro L a w' hL hsame hsz hJ AJ hcl
    have hb:=hJ.kept.toBelow (Nat.le_refl _) (by simp)
    have e0:a.eval (.tmp 22)=(.agg #[.int .i64 kd,.int .i32 rn,.int .u8 pv,.int .u8 it,.int .u8 74,.slice Ae n c,.string tx]):=AU (j:=7) (by kernel_rfl) (hJ.valOf (by decide) (AZ AJ 7 (by kernel_rfl)) rfl rfl)
    refine Step.call _ rfl rfl (AV rfl) 194 #[.agg #[.int .i64 kd,.int .i32 rn,.int .u8 pv,.int .u8 it,.int .u8 74,.slice Ae n c,.string tx]] (fun ρ hρ=>?_) ?_
    ·skip
     rw [hρ] at e0
     have ef:ρ (.func 194)=.func (.func 194) #[] #[] :=(hρ _).symm
     clear hJ hsame AJ hcl hρ hsz hb
     go_simp
    ·refine(WHX.out _ hb).mono ?_
     rintro e w2 ⟨rfl,bb⟩
     exact⟨_,rfl,hJ.val hGS hcl hL rfl bb _ rfl⟩
   ·intro L a w' hL hsame hsz hJ AJ hcl
    have hx:=hJ.Ah (HP3.out) (by simp)
    have q0:w'.cell? ⟨gP,0,none⟩=some (.int .i64 (-1)):=hx.cell 0
    have q1:w'.cell? ⟨gP,1,none⟩=some (.int .i64 s.pen.2.1):=hx.cell 1
    have q2:w'.cell? ⟨gP,2,none⟩=some (.int .i64 0):=hx.cell 2
    refine BG hJ hGS hcl hL 6 (.pointer (some ⟨gP,0,none⟩)) (.agg #[.int .i64 (-1),.int .i64 s.pen.2.1,.int .i64 0]) (AY hsame (by kernel_rfl)) _ rfl rfl rfl rfl rfl fun ρ _ e0=>?_
    clear hJ hsame AJ hcl hsz hx
    go_simp
   ·intro L a w' hL hsame hsz hJ AJ hcl
    have hb:=hJ.kept.toBelow (Nat.le_refl _) (by simp)
    have e0:a.eval (.tmp 17)=(.agg #[.int .i64 (s.g.rows:Nat),.int .i64 (s.g.AB:Nat),.slice A (s.g.rows*s.g.AB) cp]):=AU (j:=2) (by kernel_rfl) (hJ.valOf (by decide) (AZ AJ 2 (by kernel_rfl)) rfl rfl)
    have e1:a.eval (.tmp 19)=(.int .i64 (s.row:Nat)):=AU (j:=4) (by kernel_rfl) (hJ.valOf (by decide) (AZ AJ 4 (by kernel_rfl)) rfl rfl)
    have e2:a.eval (.tmp 21)=(.int .i64 (s.col:Nat)):=AU (j:=6) (by kernel_rfl) (hJ.valOf (by decide) (AZ AJ 6 (by kernel_rfl)) rfl rfl)
    have e3:a.eval (.tmp 23)=(.int .i64 k):=AU (j:=8) (by kernel_rfl) (hJ.valOf (by decide) (AZ AJ 8 (by kernel_rfl)) rfl rfl)
    have e4:a.eval (.tmp 24)=(.agg #[.int .i64 (-1),.int .i64 s.pen.2.1,.int .i64 0]):=AU (j:=9) (by kernel_rfl) (hJ.valOf (by decide) (AZ AJ 9 (by kernel_rfl)) rfl rfl)
    refine Step.call _ rfl rfl (AV rfl) 193 #[.agg #[.int .i64 (s.g.rows:Nat),.int .i64 (s.g.AB:Nat),.slice A (s.g.rows*s.g.AB) cp],.int .i64 (s.row:Nat),.int .i64 (s.col:Nat),.int .i64 k,.agg #[.int .i64 (-1),.int .i64 s.pen.2.1,.int .i64 0]] (fun ρ hρ=>?_) ?_
    ·skip
     rw [hρ] at e0 e1 e2 e3 e4
     have ef:ρ (.func 193)=.func (.func 193) #[] #[] :=(hρ _).symm
     clear hJ hsame AJ hcl hρ hsz hb
     go_simp
    ·refine(GCX.out _ hb).mono ?_
     rintro e w2 ⟨v,rfl,⟨y,rfl,ho⟩,bb⟩
     obtain⟨A9,c9,rfl⟩:=Ad (G:=T) ⟨_,rfl,ho⟩
     exact⟨_,rfl,hJ.pred hGS hcl hL rfl bb _ ⟨A9,c9,rfl,ho⟩⟩
   ·intro L a w' hL hsame hsz hJ AJ hcl
    have hb:=hJ.kept.toBelow (Nat.le_refl _) (by simp)
    have e0:a.eval (.tmp 15)=(.agg (scA (.slice A (s.g.rows*s.g.AB) cp) s)):=AU (j:=0) (by kernel_rfl) (hJ.valOf (by decide) (AZ AJ 0 (by kernel_rfl)) rfl rfl)
    obtain⟨Qx,Qy,hv10,ho10⟩:=(show(Ea T) (valOf _ 10 a) w' from hJ.Cy (by decide) (AZ AJ 10 (by kernel_rfl)) rfl)
    have e1:a.eval (.tmp 25)=.agg #[.int .i64 (T.rows:Nat),.int .i64 (T.AB:Nat),.slice Qx (T.rows*T.AB) Qy] :=AU (j:=10) (by kernel_rfl) hv10
    refine Step.call _ rfl rfl (AV rfl) 192 #[.agg (scA (.slice A (s.g.rows*s.g.AB) cp) s),.agg #[.int .i64 (T.rows:Nat),.int .i64 (T.AB:Nat),.slice Qx (T.rows*T.AB) Qy]] (fun ρ hρ=>?_) ?_
    ·skip
     rw [hρ] at e0 e1
     have ef:ρ (.func 192)=.func (.func 192) #[] #[] :=(hρ _).symm
     clear hJ hsame AJ hcl hρ hsz hb
     go_simp
    ·refine(WCX.out _ hb _ _ ho10).mono ?_
     rintro e w2 ⟨v,rfl,hi,bb⟩
     exact⟨_,rfl,hJ.pred hGS hcl hL rfl bb _ (D7 hi)⟩
   ·intro L u w' hF hall
    change wpList _ _ _ _ (Act.put (Act.put (Act.put (Act.put (Act.put (Act.put (Act.put (Act.put (Act.put (Act.put (Act.put (Act.put (Act.put (Az _ u 0 _) (some 15) (u 0)) (some 16) (u 1)) (some 17) (u 2)) (some 18) (u 3)) (some 19) (u 4)) (some 20) (u 5)) (some 21) (u 6)) (some 22) (u 7)) (some 23) (u 8)) (some 24) (u 9)) (some 25) (u 10)) (some 26) (u 11)) none (u 12)) _
    simp only [Az]
    obtain⟨A8,c8,fT,hi8⟩:=(show C8 t (u 11) w' from hF.Cy (j:=11) (by decide) (hall 11 (by decide)) rfl)
    have hkk:=hF.kept.toBelow (Nat.le_refl _) (by simp)
    clear hF
    generalize u 0=y0
    generalize u 1=y1
    generalize u 2=y2
    generalize u 3=y3
    generalize u 4=y4
    generalize u 5=y5
    generalize u 6=y6
    generalize u 7=y7
    generalize u 8=y8
    generalize u 9=y9
    generalize u 10=y10
    generalize u 11=y11 at fT⊢
    generalize u 12=y12
    subst fT
    simp only [List.drop_succ_cons,List.drop_zero]
    have HR4:=hide (HR3.out.below hkk HR3.out.lt)
    have HW4:=hide (HW3.out.trans (hkk.mono HW3.out.size))
    clear HB3 HG3 HR3 HW3 HE3 HP3 hkk
    refine AQ (x:=.slice A8 (t.g.rows*t.g.AB) c8) (s:=t) HR4.out hsR rfl _ _ rfl (by((repeat(first | rw [ET] | rw [ER (by decide)]));rfl)) (by((repeat(first | rw [ET] | rw [ER (by decide)]));rw [Hr (by(repeat rw [Cm]);exact Nat.lt_of_lt_of_le (m:=122) (by decide) (Nat.le_refl 122))])) rfl ?_
    intro w8 hB8 hk8 hs8
    change Exit.then _ _ Exit.normal _ _
    go_simp
    go_step
    go_wp2_with fail
    exact BX rfl rfl rfl hB8 (hide hi8) HR4 HW4 hk8 Ai
  by_cases f75:fn=75
  ·as_aux_lemma=>
   subst f75
   have ht:(s.uG (PG.Bl s.g s.row s.col (SN.Bd l 0 0) (SN.BI s))).u5 false=t:=HT0.out
   rw [EKK.out] at ht
   obtain⟨T,hT⟩: ∃T,PG.Bl s.g s.row s.col k (SN.BI s)=T:=⟨_,rfl⟩
   rw [hT] at ht
   have GC:=hide (fun w' (hb:Below w.heap.size w w')=>(show Calls Tryz.prog 195 #[.agg #[.int .i64 s.g.rows,.int .i64 s.g.AB,.slice A (s.g.rows*s.g.AB) cp],.int .i64 (s.row:Nat),.int .i64 (s.col:Nat),.int .i64 k,.agg #[.int .i64 (-1),.int .i64 s.pen.2.1,.int .i64 0]] w' (Dk w' T) from by
    have:=mg (w:=w') HS.out.g (HG0.out.low hb) s.row s.col k (SN.BI s) (SN.Bz HS.out) (by omega) (by omega)
    skip
    rw [hT] at this
    exact this))
   have WC:=hide (fun w' (hb:Below w.heap.size w w') (AA:Option Addr) (cc:Nat) (ho:w'.ownsRow 0 66 5 (.slice AA (T.rows*T.AB) cc) (T.rows*T.AB) (Ag (PG.cells T)))=>(show Calls Tryz.prog 192 #[.agg (scA (.slice A (s.g.rows*s.g.AB) cp) s),.agg #[.int .i64 (T.rows:Nat),.int .i64 (T.AB:Nat),.slice AA (T.rows*T.AB) cc]] w' (BD w' t) from G7 s t _ _ T w' ht ⟨_,rfl,HG0.out.low hb⟩ ⟨_,rfl,ho⟩))
   have WH:=hide (fun w' (hb:Below w.heap.size w w')=>Mf kd rn pv it 75 Ae n c B tx l k EKK.out w' (HL.out.below (hb.mono hB)) (Nat.le_trans hB hb.size) HLB.out)
   clear HT0 ht hT
   obtain⟨e0,e1,e2,e3,e4,e5,e6⟩:=HE3.out.Bo
   go_upto_region 6 with fail
   clear e0 e1 e2 e3 e4 e5 e6
   have GCX:=hide (fun w' (hb:Below w3.heap.size w3 w')=>GC.out w' (HW3.out.trans (hb.mono HW3.out.size)))
   have WCX:=hide (fun w' (hb:Below w3.heap.size w3 w')=>WC.out w' (HW3.out.trans (hb.mono HW3.out.size)))
   have WHX:=hide (fun w' (hb:Below w3.heap.size w3 w')=>WH.out w' (HW3.out.trans (hb.mono HW3.out.size)))
   go_simp
   refine Bh (n:=122) 12 [] (fun _=> #[]) [(0,0,0,0,0),(0,0,0,0,0),(0,0,0,0,0),(0,0,0,0,0),(0,0,0,0,0),(0,0,0,0,0),(0,0,0,0,0),(0,0,0,0,0),(0,0,0,0,0),(0,0,0,0,0),(1,0,0,0,0),(1,0,0,0,0),(0,0,0,0,0)] (fun j=> [(.agg (scA (.slice A (s.g.rows*s.g.AB) cp) s)),(.pointer (some ⟨g,0,none⟩)),(.agg #[.int .i64 (s.g.rows:Nat),.int .i64 (s.g.AB:Nat),.slice A (s.g.rows*s.g.AB) cp]),(.pointer (some ⟨g,3,none⟩)),(.int .i64 (s.row:Nat)),(.pointer (some ⟨g,4,none⟩)),(.int .i64 (s.col:Nat)),(.agg #[.int .i64 kd,.int .i32 rn,.int .u8 pv,.int .u8 it,.int .u8 75,.slice Ae n c,.string tx]),(.int .i64 k),(.agg #[.int .i64 (-1),.int .i64 s.pen.2.1,.int .i64 0]),undef,undef,undef].getD j undef) [none,none,none,none,none,none,none,none,none,none,some (Ea T),some (C8 t)] (fun _=>0) (by kernel_rfl) (by kernel_rfl) (by kernel_rfl) rfl (by kernel_rfl) (by kernel_rfl) (Dt rfl) (fun i j h=>by revert h;exact Dt (p:=fun _=>_) rfl i) (Aj.none_ (Aj.none_ (Aj.none_ (Aj.none_ (Aj.none_ (Aj.none_ (Aj.none_ (Aj.none_ (Aj.none_ (Aj.none_ (Aj.some_ (Ea.stays (by kernel_rfl)) (Aj.some_ (C8.stays (by kernel_rfl)) (Aj.nil _))))))))))))) (fun hGS=>GL ⟨?_,?_,?_,?_,?_,?_,?_,?_,?_,?_,?_,?_⟩) ?_
   ·intro L a w' hL hsame hsz hJ AJ hcl
    have hb:=hJ.kept.toBelow (Nat.le_refl _) (by simp)
    have e0:a.eval (.tmp 2)=(.pointer (some ⟨g,0,none⟩)):=AY hsame (by kernel_rfl)
    have hx:=hJ.Ah ((show Box w3 g 43 (scA (.slice A (s.g.rows*s.g.AB) cp) s) from HB3.out)) (by simp)
    exact Step.val _ rfl rfl (AV rfl) (.agg (scA (.slice A (s.g.rows*s.g.AB) cp) s)) w' (fun ρ hρ=>Aq hx rfl ρ _ rfl ((hρ _).symm.trans e0)) (hJ.val hGS hcl hL rfl (Below.refl _ _) _ rfl)
   ·intro L a w' hL hsame hsz hJ AJ hcl
    refine BG hJ hGS hcl hL 2 (.pointer (some ⟨g,0,none⟩)) (.pointer (some ⟨g,0,none⟩)) (AY hsame (by kernel_rfl)) _ rfl rfl rfl rfl rfl fun ρ _ e0=>?_
    clear hJ hsame AJ hcl hsz
    go_simp
   ·intro L a w' hL hsame hsz hJ AJ hcl
    have hx:=hJ.Ah ((show Box w3 g 43 (scA (.slice A (s.g.rows*s.g.AB) cp) s) from HB3.out)) (by simp)
    have q0:w'.cell? ⟨g,0,none⟩=some (.int .i64 (s.g.rows:Nat)):=hx.cell 0
    have q1:w'.cell? ⟨g,1,none⟩=some (.int .i64 (s.g.AB:Nat)):=hx.cell 1
    have q2:w'.cell? ⟨g,2,none⟩=some (.slice A (s.g.rows*s.g.AB) cp):=hx.cell 2
    refine BG hJ hGS hcl hL 30 (.pointer (some ⟨g,0,none⟩)) (.agg #[.int .i64 (s.g.rows:Nat),.int .i64 (s.g.AB:Nat),.slice A (s.g.rows*s.g.AB) cp]) (gslot hJ AJ 1 (by kernel_rfl) (by kernel_rfl) (by decide) rfl rfl) _ rfl rfl rfl rfl rfl fun ρ _ e0=>?_
    clear hJ hsame AJ hcl hsz hx
    go_simp
   ·intro L a w' hL hsame hsz hJ AJ hcl
    refine BG hJ hGS hcl hL 2 (.pointer (some ⟨g,0,none⟩)) (.pointer (some ⟨g,3,none⟩)) (AY hsame (by kernel_rfl)) _ rfl rfl rfl rfl rfl fun ρ _ e0=>?_
    clear hJ hsame AJ hcl hsz
    go_simp
   ·intro L a w' hL hsame hsz hJ AJ hcl
    have q0:w'.cell? ⟨g,3,none⟩=some (.int .i64 (s.row:Nat)):=(hJ.Ah ((show Box w3 g 43 (scA (.slice A (s.g.rows*s.g.AB) cp) s) from HB3.out)) (by simp)).cell 3
    refine BG hJ hGS hcl hL 32 (.pointer (some ⟨g,3,none⟩)) (.int .i64 (s.row:Nat)) (gslot hJ AJ 3 (by kernel_rfl) (by kernel_rfl) (by decide) rfl rfl) _ rfl rfl rfl rfl rfl fun ρ _ e0=>?_
    clear hJ hsame AJ hcl hsz
    go_simp
   ·intro L a w' hL hsame hsz hJ AJ hcl
    refine BG hJ hGS hcl hL 2 (.pointer (some ⟨g,0,none⟩)) (.pointer (some ⟨g,4,none⟩)) (AY hsame (by kernel_rfl)) _ rfl rfl rfl rfl rfl fun ρ _ e0=>?_
    clear hJ hsame AJ hcl hsz
    go_simp
   ·intro L a w' hL hsame hsz hJ AJ hcl
    have q0:w'.cell? ⟨g,4,none⟩=some (.int .i64 (s.col:Nat)):=(hJ.Ah ((show Box w3 g 43 (scA (.slice A (s.g.rows*s.g.AB) cp) s) from HB3.out)) (by simp)).cell 4
    refine BG hJ hGS hcl hL 34 (.pointer (some ⟨g,4,none⟩)) (.int .i64 (s.col:Nat)) (gslot hJ AJ 5 (by kernel_rfl) (by kernel_rfl) (by decide) rfl rfl) _ rfl rfl rfl rfl rfl fun ρ _ e0=>?_
    clear hJ hsame AJ hcl hsz
    go_simp
   ·intro L a w' hL hsame hsz hJ AJ hcl
    have hx:=hJ.Ah ((show Box w3 gE 34 #[.int .i64 kd,.int .i32 rn,.int .u8 pv,.int .u8 it,.int .u8 75,.slice Ae n c,.string tx] from HE3.out)) (by simp)
    have q0:w'.cell? ⟨gE,0,none⟩=some (.int .i64 kd):=hx.cell 0
    have q1:w'.cell? ⟨gE,1,none⟩=some (.int .i32 rn):=hx.cell 1
    have q2:w'.cell? ⟨gE,2,none⟩=some (.int .u8 pv):=hx.cell 2
    have q3:w'.cell? ⟨gE,3,none⟩=some (.int .u8 it):=hx.cell 3
    have q4:w'.cell? ⟨gE,4,none⟩=some (.int .u8 75):=hx.cell 4
    have q5:w'.cell? ⟨gE,5,none⟩=some (.slice Ae n c):=hx.cell 5
    have q6:w'.cell? ⟨gE,6,none⟩=some (.string tx):=hx.cell 6
    refine BG hJ hGS hcl hL 3 (.pointer (some ⟨gE,0,none⟩)) (.agg #[.int .i64 kd,.int .i32 rn,.int .u8 pv,.int .u8 it,.int .u8 75,.slice Ae n c,.string tx]) (AY hsame (by kernel_rfl)) _ rfl rfl rfl rfl rfl fun ρ _ e0=>?_
    clear hJ hsame AJ hcl hsz hx
    go_simp
   ·intro L a w' hL hsame hsz hJ AJ hcl
    have hb:=hJ.kept.toBelow (Nat.le_refl _) (by simp)
    have e0:a.eval (.tmp 36)=(.agg #[.int .i64 kd,.int .i32 rn,.int .u8 pv,.int .u8 it,.int .u8 75,.slice Ae n c,.string tx]):=AU (j:=7) (by kernel_rfl) (hJ.valOf (by decide) (AZ AJ 7 (by kernel_rfl)) rfl rfl)
    refine Step.call _ rfl rfl (AV rfl) 194 #[.agg #[.int .i64 kd,.int .i32 rn,.int .u8 pv,.int .u8 it,.int .u8 75,.slice Ae n c,.string tx]] (fun ρ hρ=>?_) ?_
    ·skip
     rw [hρ] at e0
     have ef:ρ (.func 194)=.func (.func 194) #[] #[] :=(hρ _).symm
     clear hJ hsame AJ hcl hρ hsz hb
     go_simp
    ·refine(WHX.out _ hb).mono ?_
     rintro e w2 ⟨rfl,bb⟩
     exact⟨_,rfl,hJ.val hGS hcl hL rfl bb _ rfl⟩
   ·intro L a w' hL hsame hsz hJ AJ hcl
    have hx:=hJ.Ah (HP3.out) (by simp)
    have q0:w'.cell? ⟨gP,0,none⟩=some (.int .i64 (-1)):=hx.cell 0
    have q1:w'.cell? ⟨gP,1,none⟩=some (.int .i64 s.pen.2.1):=hx.cell 1
    have q2:w'.cell? ⟨gP,2,none⟩=some (.int .i64 0):=hx.cell 2
    refine BG hJ hGS hcl hL 6 (.pointer (some ⟨gP,0,none⟩)) (.agg #[.int .i64 (-1),.int .i64 s.pen.2.1,.int .i64 0]) (AY hsame (by kernel_rfl)) _ rfl rfl rfl rfl rfl fun ρ _ e0=>?_
    clear hJ hsame AJ hcl hsz hx
    go_simp
   ·intro L a w' hL hsame hsz hJ AJ hcl
    have hb:=hJ.kept.toBelow (Nat.le_refl _) (by simp)
    have e0:a.eval (.tmp 31)=(.agg #[.int .i64 (s.g.rows:Nat),.int .i64 (s.g.AB:Nat),.slice A (s.g.rows*s.g.AB) cp]):=AU (j:=2) (by kernel_rfl) (hJ.valOf (by decide) (AZ AJ 2 (by kernel_rfl)) rfl rfl)
    have e1:a.eval (.tmp 33)=(.int .i64 (s.row:Nat)):=AU (j:=4) (by kernel_rfl) (hJ.valOf (by decide) (AZ AJ 4 (by kernel_rfl)) rfl rfl)
    have e2:a.eval (.tmp 35)=(.int .i64 (s.col:Nat)):=AU (j:=6) (by kernel_rfl) (hJ.valOf (by decide) (AZ AJ 6 (by kernel_rfl)) rfl rfl)
    have e3:a.eval (.tmp 37)=(.int .i64 k):=AU (j:=8) (by kernel_rfl) (hJ.valOf (by decide) (AZ AJ 8 (by kernel_rfl)) rfl rfl)
    have e4:a.eval (.tmp 38)=(.agg #[.int .i64 (-1),.int .i64 s.pen.2.1,.int .i64 0]):=AU (j:=9) (by kernel_rfl) (hJ.valOf (by decide) (AZ AJ 9 (by kernel_rfl)) rfl rfl)
    refine Step.call _ rfl rfl (AV rfl) 195 #[.agg #[.int .i64 (s.g.rows:Nat),.int .i64 (s.g.AB:Nat),.slice A (s.g.rows*s.g.AB) cp],.int .i64 (s.row:Nat),.int .i64 (s.col:Nat),.int .i64 k,.agg #[.int .i64 (-1),.int .i64 s.pen.2.1,.int .i64 0]] (fun ρ hρ=>?_) ?_
    ·skip
     rw [hρ] at e0 e1 e2 e3 e4
     have ef:ρ (.func 195)=.func (.func 195) #[] #[] :=(hρ _).symm
     clear hJ hsame AJ hcl hρ hsz hb
     go_simp
    ·refine(GCX.out _ hb).mono ?_
     rintro e w2 ⟨v,rfl,⟨y,rfl,ho⟩,bb⟩
     obtain⟨A9,c9,rfl⟩:=Ad (G:=T) ⟨_,rfl,ho⟩
     exact⟨_,rfl,hJ.pred hGS hcl hL rfl bb _ ⟨A9,c9,rfl,ho⟩⟩
   ·intro L a w' hL hsame hsz hJ AJ hcl
    have hb:=hJ.kept.toBelow (Nat.le_refl _) (by simp)
    have e0:a.eval (.tmp 29)=(.agg (scA (.slice A (s.g.rows*s.g.AB) cp) s)):=AU (j:=0) (by kernel_rfl) (hJ.valOf (by decide) (AZ AJ 0 (by kernel_rfl)) rfl rfl)
    obtain⟨Qx,Qy,hv10,ho10⟩:=(show(Ea T) (valOf _ 10 a) w' from hJ.Cy (by decide) (AZ AJ 10 (by kernel_rfl)) rfl)
    have e1:a.eval (.tmp 39)=.agg #[.int .i64 (T.rows:Nat),.int .i64 (T.AB:Nat),.slice Qx (T.rows*T.AB) Qy] :=AU (j:=10) (by kernel_rfl) hv10
    refine Step.call _ rfl rfl (AV rfl) 192 #[.agg (scA (.slice A (s.g.rows*s.g.AB) cp) s),.agg #[.int .i64 (T.rows:Nat),.int .i64 (T.AB:Nat),.slice Qx (T.rows*T.AB) Qy]] (fun ρ hρ=>?_) ?_
    ·skip
     rw [hρ] at e0 e1
     have ef:ρ (.func 192)=.func (.func 192) #[] #[] :=(hρ _).symm
     clear hJ hsame AJ hcl hρ hsz hb
     go_simp
    ·refine(WCX.out _ hb _ _ ho10).mono ?_
     rintro e w2 ⟨v,rfl,hi,bb⟩
     exact⟨_,rfl,hJ.pred hGS hcl hL rfl bb _ (D7 hi)⟩
   ·intro L u w' hF hall
    change wpList _ _ _ _ (Act.put (Act.put (Act.put (Act.put (Act.put (Act.put (Act.put (Act.put (Act.put (Act.put (Act.put (Act.put (Act.put (Az _ u 0 _) (some 29) (u 0)) (some 30) (u 1)) (some 31) (u 2)) (some 32) (u 3)) (some 33) (u 4)) (some 34) (u 5)) (some 35) (u 6)) (some 36) (u 7)) (some 37) (u 8)) (some 38) (u 9)) (some 39) (u 10)) (some 40) (u 11)) none (u 12)) _
    simp only [Az]
    obtain⟨A8,c8,fT,hi8⟩:=(show C8 t (u 11) w' from hF.Cy (j:=11) (by decide) (hall 11 (by decide)) rfl)
    have hkk:=hF.kept.toBelow (Nat.le_refl _) (by simp)
    clear hF
    generalize u 0=y0
    generalize u 1=y1
    generalize u 2=y2
    generalize u 3=y3
    generalize u 4=y4
    generalize u 5=y5
    generalize u 6=y6
    generalize u 7=y7
    generalize u 8=y8
    generalize u 9=y9
    generalize u 10=y10
    generalize u 11=y11 at fT⊢
    generalize u 12=y12
    subst fT
    simp only [List.drop_succ_cons,List.drop_zero]
    have HR4:=hide (HR3.out.below hkk HR3.out.lt)
    have HW4:=hide (HW3.out.trans (hkk.mono HW3.out.size))
    clear HB3 HG3 HR3 HW3 HE3 HP3 hkk
    refine AQ (x:=.slice A8 (t.g.rows*t.g.AB) c8) (s:=t) HR4.out hsR rfl _ _ rfl (by((repeat(first | rw [ET] | rw [ER (by decide)]));rfl)) (by((repeat(first | rw [ET] | rw [ER (by decide)]));rw [Hr (by(repeat rw [Cm]);exact Nat.lt_of_lt_of_le (m:=122) (by decide) (Nat.le_refl 122))])) rfl ?_
    intro w8 hB8 hk8 hs8
    change Exit.then _ _ Exit.normal _ _
    go_simp
    go_step
    go_wp2_with fail
    exact BX rfl rfl rfl hB8 (hide hi8) HR4 HW4 hk8 Ai
  by_cases f76:fn=76
  ·as_aux_lemma=>
   subst f76
   have ht:(if SN.InM s then SN.atS (s.uG (PG.Am s.g s.row s.bot (-(SN.Bd l 0 1)) (SN.BI s))) s.row 0 else s)=t:=HT0.out
   rw [EM.out] at ht
   have AT:=hide (fun w' v' h=>Qw s t v' m w' HS.out hm1.2 ht h)
   clear HT0 ht
   obtain⟨e0,e1,e2,e3,e4,e5,e6⟩:=HE3.out.Bo
   go_wp2_with (refine AX HB3.out rfl _ rfl rfl ?_)
   refine(AT.out _ _ ⟨_,rfl,HG3.out⟩).mono (Al HR3 HW3 fun A7 c7 w7 HR7 HW7 HG7=>?_)
   clear e0 e1 e2 e3 e4 e5 e6
   clear HB3 HR3 HW3 HG3 HE3 HP3
   go_wp2_with (refine AQ HR7.out hsR rfl _ _ rfl rfl rfl rfl ?_;intro w8 hB8 hk8 hs8)
   exact BX rfl rfl rfl hB8 HG7 HR7 HW7 hk8 Ai
  by_cases f77:fn=77
  ·as_aux_lemma=>
   subst f77
   have ht:(if SN.InM s then SN.atS (s.uG (PG.Am s.g s.row s.bot ((SN.Bd l 0 1)) (SN.BI s))) s.row 0 else s)=t:=HT0.out
   rw [EM.out] at ht
   have AT:=hide (fun w' v' h=>Xd s t v' m w' HS.out hm1.2 ht h)
   clear HT0 ht
   obtain⟨e0,e1,e2,e3,e4,e5,e6⟩:=HE3.out.Bo
   go_wp2_with (refine AX HB3.out rfl _ rfl rfl ?_)
   refine(AT.out _ _ ⟨_,rfl,HG3.out⟩).mono (Al HR3 HW3 fun A7 c7 w7 HR7 HW7 HG7=>?_)
   clear e0 e1 e2 e3 e4 e5 e6
   clear HB3 HR3 HW3 HG3 HE3 HP3
   go_wp2_with (refine AQ HR7.out hsR rfl _ _ rfl rfl rfl rfl ?_;intro w8 hB8 hk8 hs8)
   exact BX rfl rfl rfl hB8 HG7 HR7 HW7 hk8 Ai
  by_cases f64:fn=64
  ·as_aux_lemma=>
   subst f64
   have ht:(s.uG (PG.CK s.g s.row s.col ((SN.Bd l 0 1)) (SN.BI s))).u5 false=t:=HT0.out
   rw [EM.out] at ht
   obtain⟨T,hT⟩: ∃T,PG.CK s.g s.row s.col ((m:Int)) (SN.BI s)=T:=⟨_,rfl⟩
   rw [hT] at ht
   have GC:=hide (fun w' (hb:Below w.heap.size w w')=>(show Calls Tryz.prog 197 #[.agg #[.int .i64 s.g.rows,.int .i64 s.g.AB,.slice A (s.g.rows*s.g.AB) cp],.int .i64 (s.row:Nat),.int .i64 (s.col:Nat),.int .i64 (m:Nat),.agg #[.int .i64 (-1),.int .i64 s.pen.2.1,.int .i64 0]] w' (Dk w' T) from by
    have:=Zi (w:=w') HS.out.g (HG0.out.low hb) s.row s.col m (SN.BI s) (SN.Bz HS.out) (by omega) (by omega) (by omega)
    have SI:PG.Ei s.g s.row s.col ((m:Int)) (SN.BI s)=PG.CK s.g s.row s.col ((m:Int)) (SN.BI s):=(if_pos ⟨by omega,by omega⟩).trans (by simp)
    rw [SI] at this
    rw [hT] at this
    exact this))
   have WC:=hide (fun w' (hb:Below w.heap.size w w') (AA:Option Addr) (cc:Nat) (ho:w'.ownsRow 0 66 5 (.slice AA (T.rows*T.AB) cc) (T.rows*T.AB) (Ag (PG.cells T)))=>(show Calls Tryz.prog 192 #[.agg (scA (.slice A (s.g.rows*s.g.AB) cp) s),.agg #[.int .i64 (T.rows:Nat),.int .i64 (T.AB:Nat),.slice AA (T.rows*T.AB) cc]] w' (BD w' t) from G7 s t _ _ T w' ht ⟨_,rfl,HG0.out.low hb⟩ ⟨_,rfl,ho⟩))
   clear HT0 ht hT
   obtain⟨e0,e1,e2,e3,e4,e5,e6⟩:=HE3.out.Bo
   go_upto_region 12 with fail
   clear e0 e1 e2 e3 e4 e5 e6
   have GCX:=hide (fun w' (hb:Below w3.heap.size w3 w')=>GC.out w' (HW3.out.trans (hb.mono HW3.out.size)))
   have WCX:=hide (fun w' (hb:Below w3.heap.size w3 w')=>WC.out w' (HW3.out.trans (hb.mono HW3.out.size)))
   go_simp
   refine Bh (n:=122) 11 [] (fun _=> #[]) [(0,0,0,0,0),(0,0,0,0,0),(0,0,0,0,0),(0,0,0,0,0),(0,0,0,0,0),(0,0,0,0,0),(0,0,0,0,0),(0,0,0,0,0),(0,0,0,0,0),(1,0,0,0,0),(1,0,0,0,0),(0,0,0,0,0)] (fun j=> [(.agg (scA (.slice A (s.g.rows*s.g.AB) cp) s)),(.pointer (some ⟨g,0,none⟩)),(.agg #[.int .i64 (s.g.rows:Nat),.int .i64 (s.g.AB:Nat),.slice A (s.g.rows*s.g.AB) cp]),(.pointer (some ⟨g,3,none⟩)),(.int .i64 (s.row:Nat)),(.pointer (some ⟨g,4,none⟩)),(.int .i64 (s.col:Nat)),(.int .i64 (m:Nat)),(.agg #[.int .i64 (-1),.int .i64 s.pen.2.1,.int .i64 0]),undef,undef,undef].getD j undef) [none,none,none,none,none,none,none,none,none,some (Ea T),some (C8 t)] (fun _=>0) (by kernel_rfl) (by kernel_rfl) (by kernel_rfl) rfl (by kernel_rfl) (by kernel_rfl) (Dt rfl) (fun i j h=>by revert h;exact Dt (p:=fun _=>_) rfl i) (Aj.none_ (Aj.none_ (Aj.none_ (Aj.none_ (Aj.none_ (Aj.none_ (Aj.none_ (Aj.none_ (Aj.none_ (Aj.some_ (Ea.stays (by kernel_rfl)) (Aj.some_ (C8.stays (by kernel_rfl)) (Aj.nil _)))))))))))) (fun hGS=>K7 ⟨?_,?_,?_,?_,?_,?_,?_,?_,?_,?_,?_⟩) ?_
   ·intro L a w' hL hsame hsz hJ AJ hcl
    have hb:=hJ.kept.toBelow (Nat.le_refl _) (by simp)
    have e0:a.eval (.tmp 2)=(.pointer (some ⟨g,0,none⟩)):=AY hsame (by kernel_rfl)
    have hx:=hJ.Ah ((show Box w3 g 43 (scA (.slice A (s.g.rows*s.g.AB) cp) s) from HB3.out)) (by simp)
    exact Step.val _ rfl rfl (AV rfl) (.agg (scA (.slice A (s.g.rows*s.g.AB) cp) s)) w' (fun ρ hρ=>Aq hx rfl ρ _ rfl ((hρ _).symm.trans e0)) (hJ.val hGS hcl hL rfl (Below.refl _ _) _ rfl)
   ·intro L a w' hL hsame hsz hJ AJ hcl
    refine BG hJ hGS hcl hL 2 (.pointer (some ⟨g,0,none⟩)) (.pointer (some ⟨g,0,none⟩)) (AY hsame (by kernel_rfl)) _ rfl rfl rfl rfl rfl fun ρ _ e0=>?_
    clear hJ hsame AJ hcl hsz
    go_simp
   ·intro L a w' hL hsame hsz hJ AJ hcl
    have hx:=hJ.Ah ((show Box w3 g 43 (scA (.slice A (s.g.rows*s.g.AB) cp) s) from HB3.out)) (by simp)
    have q0:w'.cell? ⟨g,0,none⟩=some (.int .i64 (s.g.rows:Nat)):=hx.cell 0
    have q1:w'.cell? ⟨g,1,none⟩=some (.int .i64 (s.g.AB:Nat)):=hx.cell 1
    have q2:w'.cell? ⟨g,2,none⟩=some (.slice A (s.g.rows*s.g.AB) cp):=hx.cell 2
    refine BG hJ hGS hcl hL 54 (.pointer (some ⟨g,0,none⟩)) (.agg #[.int .i64 (s.g.rows:Nat),.int .i64 (s.g.AB:Nat),.slice A (s.g.rows*s.g.AB) cp]) (gslot hJ AJ 1 (by kernel_rfl) (by kernel_rfl) (by decide) rfl rfl) _ rfl rfl rfl rfl rfl fun ρ _ e0=>?_
    clear hJ hsame AJ hcl hsz hx
    go_simp
   ·intro L a w' hL hsame hsz hJ AJ hcl
    refine BG hJ hGS hcl hL 2 (.pointer (some ⟨g,0,none⟩)) (.pointer (some ⟨g,3,none⟩)) (AY hsame (by kernel_rfl)) _ rfl rfl rfl rfl rfl fun ρ _ e0=>?_
    clear hJ hsame AJ hcl hsz
    go_simp
   ·intro L a w' hL hsame hsz hJ AJ hcl
    have q0:w'.cell? ⟨g,3,none⟩=some (.int .i64 (s.row:Nat)):=(hJ.Ah ((show Box w3 g 43 (scA (.slice A (s.g.rows*s.g.AB) cp) s) from HB3.out)) (by simp)).cell 3
    refine BG hJ hGS hcl hL 56 (.pointer (some ⟨g,3,none⟩)) (.int .i64 (s.row:Nat)) (gslot hJ AJ 3 (by kernel_rfl) (by kernel_rfl) (by decide) rfl rfl) _ rfl rfl rfl rfl rfl fun ρ _ e0=>?_
    clear hJ hsame AJ hcl hsz
    go_simp
   ·intro L a w' hL hsame hsz hJ AJ hcl
    refine BG hJ hGS hcl hL 2 (.pointer (some ⟨g,0,none⟩)) (.pointer (some ⟨g,4,none⟩)) (AY hsame (by kernel_rfl)) _ rfl rfl rfl rfl rfl fun ρ _ e0=>?_
    clear hJ hsame AJ hcl hsz
    go_simp
   ·intro L a w' hL hsame hsz hJ AJ hcl
    have q0:w'.cell? ⟨g,4,none⟩=some (.int .i64 (s.col:Nat)):=(hJ.Ah ((show Box w3 g 43 (scA (.slice A (s.g.rows*s.g.AB) cp) s) from HB3.out)) (by simp)).cell 4
    refine BG hJ hGS hcl hL 58 (.pointer (some ⟨g,4,none⟩)) (.int .i64 (s.col:Nat)) (gslot hJ AJ 5 (by kernel_rfl) (by kernel_rfl) (by decide) rfl rfl) _ rfl rfl rfl rfl rfl fun ρ _ e0=>?_
    clear hJ hsame AJ hcl hsz
    go_simp
   ·intro L a w' hL hsame hsz hJ AJ hcl
    refine BG hJ hGS hcl hL 5 (.int .i64 (m:Nat)) (.int .i64 (m:Nat)) (AY hsame (by kernel_rfl)) _ rfl rfl rfl rfl rfl fun ρ _ e0=>?_
    clear hJ hsame AJ hcl hsz
    go_simp
   ·intro L a w' hL hsame hsz hJ AJ hcl
    have hx:=hJ.Ah (HP3.out) (by simp)
    have q0:w'.cell? ⟨gP,0,none⟩=some (.int .i64 (-1)):=hx.cell 0
    have q1:w'.cell? ⟨gP,1,none⟩=some (.int .i64 s.pen.2.1):=hx.cell 1
    have q2:w'.cell? ⟨gP,2,none⟩=some (.int .i64 0):=hx.cell 2
    refine BG hJ hGS hcl hL 6 (.pointer (some ⟨gP,0,none⟩)) (.agg #[.int .i64 (-1),.int .i64 s.pen.2.1,.int .i64 0]) (AY hsame (by kernel_rfl)) _ rfl rfl rfl rfl rfl fun ρ _ e0=>?_
    clear hJ hsame AJ hcl hsz hx
    go_simp
   ·intro L a w' hL hsame hsz hJ AJ hcl
    have hb:=hJ.kept.toBelow (Nat.le_refl _) (by simp)
    have e0:a.eval (.tmp 55)=(.agg #[.int .i64 (s.g.rows:Nat),.int .i64 (s.g.AB:Nat),.slice A (s.g.rows*s.g.AB) cp]):=AU (j:=2) (by kernel_rfl) (hJ.valOf (by decide) (AZ AJ 2 (by kernel_rfl)) rfl rfl)
    have e1:a.eval (.tmp 57)=(.int .i64 (s.row:Nat)):=AU (j:=4) (by kernel_rfl) (hJ.valOf (by decide) (AZ AJ 4 (by kernel_rfl)) rfl rfl)
    have e2:a.eval (.tmp 59)=(.int .i64 (s.col:Nat)):=AU (j:=6) (by kernel_rfl) (hJ.valOf (by decide) (AZ AJ 6 (by kernel_rfl)) rfl rfl)
    have e3:a.eval (.tmp 60)=(.int .i64 (m:Nat)):=AU (j:=7) (by kernel_rfl) (hJ.valOf (by decide) (AZ AJ 7 (by kernel_rfl)) rfl rfl)
    have e4:a.eval (.tmp 61)=(.agg #[.int .i64 (-1),.int .i64 s.pen.2.1,.int .i64 0]):=AU (j:=8) (by kernel_rfl) (hJ.valOf (by decide) (AZ AJ 8 (by kernel_rfl)) rfl rfl)
    refine Step.call _ rfl rfl (AV rfl) 197 #[.agg #[.int .i64 (s.g.rows:Nat),.int .i64 (s.g.AB:Nat),.slice A (s.g.rows*s.g.AB) cp],.int .i64 (s.row:Nat),.int .i64 (s.col:Nat),.int .i64 (m:Nat),.agg #[.int .i64 (-1),.int .i64 s.pen.2.1,.int .i64 0]] (fun ρ hρ=>?_) ?_
    ·skip
     rw [hρ] at e0 e1 e2 e3 e4
     have ef:ρ (.func 197)=.func (.func 197) #[] #[] :=(hρ _).symm
     clear hJ hsame AJ hcl hρ hsz hb
     go_simp
    ·refine(GCX.out _ hb).mono ?_
     rintro e w2 ⟨v,rfl,⟨y,rfl,ho⟩,bb⟩
     obtain⟨A9,c9,rfl⟩:=Ad (G:=T) ⟨_,rfl,ho⟩
     exact⟨_,rfl,hJ.pred hGS hcl hL rfl bb _ ⟨A9,c9,rfl,ho⟩⟩
   ·intro L a w' hL hsame hsz hJ AJ hcl
    have hb:=hJ.kept.toBelow (Nat.le_refl _) (by simp)
    have e0:a.eval (.tmp 53)=(.agg (scA (.slice A (s.g.rows*s.g.AB) cp) s)):=AU (j:=0) (by kernel_rfl) (hJ.valOf (by decide) (AZ AJ 0 (by kernel_rfl)) rfl rfl)
    obtain⟨A9',c9',hv9,ho9⟩:=(show(Ea T) (valOf _ 9 a) w' from hJ.Cy (by decide) (AZ AJ 9 (by kernel_rfl)) rfl)
    have e1:a.eval (.tmp 62)=.agg #[.int .i64 (T.rows:Nat),.int .i64 (T.AB:Nat),.slice A9' (T.rows*T.AB) c9'] :=AU (j:=9) (by kernel_rfl) hv9
    refine Step.call _ rfl rfl (AV rfl) 192 #[.agg (scA (.slice A (s.g.rows*s.g.AB) cp) s),.agg #[.int .i64 (T.rows:Nat),.int .i64 (T.AB:Nat),.slice A9' (T.rows*T.AB) c9']] (fun ρ hρ=>?_) ?_
    ·skip
     rw [hρ] at e0 e1
     have ef:ρ (.func 192)=.func (.func 192) #[] #[] :=(hρ _).symm
     clear hJ hsame AJ hcl hρ hsz hb
     go_simp
    ·refine(WCX.out _ hb _ _ ho9).mono ?_
     rintro e w2 ⟨v,rfl,hi,bb⟩
     exact⟨_,rfl,hJ.pred hGS hcl hL rfl bb _ (D7 hi)⟩
   ·intro L u w' hF hall
    change wpList _ _ _ _ (Act.put (Act.put (Act.put (Act.put (Act.put (Act.put (Act.put (Act.put (Act.put (Act.put (Act.put (Act.put (Az _ u 0 _) (some 53) (u 0)) (some 54) (u 1)) (some 55) (u 2)) (some 56) (u 3)) (some 57) (u 4)) (some 58) (u 5)) (some 59) (u 6)) (some 60) (u 7)) (some 61) (u 8)) (some 62) (u 9)) (some 63) (u 10)) none (u 11)) _
    simp only [Az]
    obtain⟨A8,c8,fT,hi8⟩:=(show C8 t (u 10) w' from hF.Cy (j:=10) (by decide) (hall 10 (by decide)) rfl)
    have hkk:=hF.kept.toBelow (Nat.le_refl _) (by simp)
    clear hF
    generalize u 0=y0
    generalize u 1=y1
    generalize u 2=y2
    generalize u 3=y3
    generalize u 4=y4
    generalize u 5=y5
    generalize u 6=y6
    generalize u 7=y7
    generalize u 8=y8
    generalize u 9=y9
    generalize u 10=y10 at fT⊢
    generalize u 11=y11
    subst fT
    simp only [List.drop_succ_cons,List.drop_zero]
    have HR4:=hide (HR3.out.below hkk HR3.out.lt)
    have HW4:=hide (HW3.out.trans (hkk.mono HW3.out.size))
    clear HB3 HG3 HR3 HW3 HE3 HP3 hkk
    refine AQ (x:=.slice A8 (t.g.rows*t.g.AB) c8) (s:=t) HR4.out hsR rfl _ _ rfl (by((repeat(first | rw [ET] | rw [ER (by decide)]));rfl)) (by((repeat(first | rw [ET] | rw [ER (by decide)]));rw [Hr (by(repeat rw [Cm]);exact Nat.lt_of_lt_of_le (m:=122) (by decide) (Nat.le_refl 122))])) rfl ?_
    intro w8 hB8 hk8 hs8
    change Exit.then _ _ Exit.normal _ _
    go_simp
    go_step
    go_wp2_with fail
    exact BX rfl rfl rfl hB8 (hide hi8) HR4 HW4 hk8 Ai
  by_cases f80:fn=80
  ·as_aux_lemma=>
   subst f80
   have ht:(s.uG (PG.CK s.g s.row s.col (-(SN.Bd l 0 1)) (SN.BI s))).u5 false=t:=HT0.out
   rw [EM.out] at ht
   obtain⟨T,hT⟩: ∃T,PG.CK s.g s.row s.col (-(m:Int)) (SN.BI s)=T:=⟨_,rfl⟩
   rw [hT] at ht
   have GC:=hide (fun w' (hb:Below w.heap.size w w')=>(show Calls Tryz.prog 198 #[.agg #[.int .i64 s.g.rows,.int .i64 s.g.AB,.slice A (s.g.rows*s.g.AB) cp],.int .i64 (s.row:Nat),.int .i64 (s.col:Nat),.int .i64 (m:Nat),.agg #[.int .i64 (-1),.int .i64 s.pen.2.1,.int .i64 0]] w' (Dk w' T) from by
    have:=Zk (w:=w') HS.out.g (HG0.out.low hb) s.row s.col m (SN.BI s) (SN.Bz HS.out) (by omega) (by omega) (by omega)
    have SI:PG.Ei s.g s.row s.col (-(m:Int)) (SN.BI s)=PG.CK s.g s.row s.col (-(m:Int)) (SN.BI s):=(if_pos ⟨by omega,by omega⟩).trans (by simp)
    rw [SI] at this
    rw [hT] at this
    exact this))
   have WC:=hide (fun w' (hb:Below w.heap.size w w') (AA:Option Addr) (cc:Nat) (ho:w'.ownsRow 0 66 5 (.slice AA (T.rows*T.AB) cc) (T.rows*T.AB) (Ag (PG.cells T)))=>(show Calls Tryz.prog 192 #[.agg (scA (.slice A (s.g.rows*s.g.AB) cp) s),.agg #[.int .i64 (T.rows:Nat),.int .i64 (T.AB:Nat),.slice AA (T.rows*T.AB) cc]] w' (BD w' t) from G7 s t _ _ T w' ht ⟨_,rfl,HG0.out.low hb⟩ ⟨_,rfl,ho⟩))
   clear HT0 ht hT
   obtain⟨e0,e1,e2,e3,e4,e5,e6⟩:=HE3.out.Bo
   go_upto_region 14 with fail
   clear e0 e1 e2 e3 e4 e5 e6
   have GCX:=hide (fun w' (hb:Below w3.heap.size w3 w')=>GC.out w' (HW3.out.trans (hb.mono HW3.out.size)))
   have WCX:=hide (fun w' (hb:Below w3.heap.size w3 w')=>WC.out w' (HW3.out.trans (hb.mono HW3.out.size)))
   go_simp
   refine Bh (n:=122) 11 [] (fun _=> #[]) [(0,0,0,0,0),(0,0,0,0,0),(0,0,0,0,0),(0,0,0,0,0),(0,0,0,0,0),(0,0,0,0,0),(0,0,0,0,0),(0,0,0,0,0),(0,0,0,0,0),(1,0,0,0,0),(1,0,0,0,0),(0,0,0,0,0)] (fun j=> [(.agg (scA (.slice A (s.g.rows*s.g.AB) cp) s)),(.pointer (some ⟨g,0,none⟩)),(.agg #[.int .i64 (s.g.rows:Nat),.int .i64 (s.g.AB:Nat),.slice A (s.g.rows*s.g.AB) cp]),(.pointer (some ⟨g,3,none⟩)),(.int .i64 (s.row:Nat)),(.pointer (some ⟨g,4,none⟩)),(.int .i64 (s.col:Nat)),(.int .i64 (m:Nat)),(.agg #[.int .i64 (-1),.int .i64 s.pen.2.1,.int .i64 0]),undef,undef,undef].getD j undef) [none,none,none,none,none,none,none,none,none,some (Ea T),some (C8 t)] (fun _=>0) (by kernel_rfl) (by kernel_rfl) (by kernel_rfl) rfl (by kernel_rfl) (by kernel_rfl) (Dt rfl) (fun i j h=>by revert h;exact Dt (p:=fun _=>_) rfl i) (Aj.none_ (Aj.none_ (Aj.none_ (Aj.none_ (Aj.none_ (Aj.none_ (Aj.none_ (Aj.none_ (Aj.none_ (Aj.some_ (Ea.stays (by kernel_rfl)) (Aj.some_ (C8.stays (by kernel_rfl)) (Aj.nil _)))))))))))) (fun hGS=>K7 ⟨?_,?_,?_,?_,?_,?_,?_,?_,?_,?_,?_⟩) ?_
   ·intro L a w' hL hsame hsz hJ AJ hcl
    have hb:=hJ.kept.toBelow (Nat.le_refl _) (by simp)
    have e0:a.eval (.tmp 2)=(.pointer (some ⟨g,0,none⟩)):=AY hsame (by kernel_rfl)
    have hx:=hJ.Ah ((show Box w3 g 43 (scA (.slice A (s.g.rows*s.g.AB) cp) s) from HB3.out)) (by simp)
    exact Step.val _ rfl rfl (AV rfl) (.agg (scA (.slice A (s.g.rows*s.g.AB) cp) s)) w' (fun ρ hρ=>Aq hx rfl ρ _ rfl ((hρ _).symm.trans e0)) (hJ.val hGS hcl hL rfl (Below.refl _ _) _ rfl)
   ·intro L a w' hL hsame hsz hJ AJ hcl
    refine BG hJ hGS hcl hL 2 (.pointer (some ⟨g,0,none⟩)) (.pointer (some ⟨g,0,none⟩)) (AY hsame (by kernel_rfl)) _ rfl rfl rfl rfl rfl fun ρ _ e0=>?_
    clear hJ hsame AJ hcl hsz
    go_simp
   ·intro L a w' hL hsame hsz hJ AJ hcl
    have hx:=hJ.Ah ((show Box w3 g 43 (scA (.slice A (s.g.rows*s.g.AB) cp) s) from HB3.out)) (by simp)
    have q0:w'.cell? ⟨g,0,none⟩=some (.int .i64 (s.g.rows:Nat)):=hx.cell 0
    have q1:w'.cell? ⟨g,1,none⟩=some (.int .i64 (s.g.AB:Nat)):=hx.cell 1
    have q2:w'.cell? ⟨g,2,none⟩=some (.slice A (s.g.rows*s.g.AB) cp):=hx.cell 2
    refine BG hJ hGS hcl hL 67 (.pointer (some ⟨g,0,none⟩)) (.agg #[.int .i64 (s.g.rows:Nat),.int .i64 (s.g.AB:Nat),.slice A (s.g.rows*s.g.AB) cp]) (gslot hJ AJ 1 (by kernel_rfl) (by kernel_rfl) (by decide) rfl rfl) _ rfl rfl rfl rfl rfl fun ρ _ e0=>?_
    clear hJ hsame AJ hcl hsz hx
    go_simp
   ·intro L a w' hL hsame hsz hJ AJ hcl
    refine BG hJ hGS hcl hL 2 (.pointer (some ⟨g,0,none⟩)) (.pointer (some ⟨g,3,none⟩)) (AY hsame (by kernel_rfl)) _ rfl rfl rfl rfl rfl fun ρ _ e0=>?_
    clear hJ hsame AJ hcl hsz
    go_simp
   ·intro L a w' hL hsame hsz hJ AJ hcl
    have q0:w'.cell? ⟨g,3,none⟩=some (.int .i64 (s.row:Nat)):=(hJ.Ah ((show Box w3 g 43 (scA (.slice A (s.g.rows*s.g.AB) cp) s) from HB3.out)) (by simp)).cell 3
    refine BG hJ hGS hcl hL 69 (.pointer (some ⟨g,3,none⟩)) (.int .i64 (s.row:Nat)) (gslot hJ AJ 3 (by kernel_rfl) (by kernel_rfl) (by decide) rfl rfl) _ rfl rfl rfl rfl rfl fun ρ _ e0=>?_
    clear hJ hsame AJ hcl hsz
    go_simp
   ·intro L a w' hL hsame hsz hJ AJ hcl
    refine BG hJ hGS hcl hL 2 (.pointer (some ⟨g,0,none⟩)) (.pointer (some ⟨g,4,none⟩)) (AY hsame (by kernel_rfl)) _ rfl rfl rfl rfl rfl fun ρ _ e0=>?_
    clear hJ hsame AJ hcl hsz
    go_simp
   ·intro L a w' hL hsame hsz hJ AJ hcl
    have q0:w'.cell? ⟨g,4,none⟩=some (.int .i64 (s.col:Nat)):=(hJ.Ah ((show Box w3 g 43 (scA (.slice A (s.g.rows*s.g.AB) cp) s) from HB3.out)) (by simp)).cell 4
    refine BG hJ hGS hcl hL 71 (.pointer (some ⟨g,4,none⟩)) (.int .i64 (s.col:Nat)) (gslot hJ AJ 5 (by kernel_rfl) (by kernel_rfl) (by decide) rfl rfl) _ rfl rfl rfl rfl rfl fun ρ _ e0=>?_
    clear hJ hsame AJ hcl hsz
    go_simp
   ·intro L a w' hL hsame hsz hJ AJ hcl
    refine BG hJ hGS hcl hL 5 (.int .i64 (m:Nat)) (.int .i64 (m:Nat)) (AY hsame (by kernel_rfl)) _ rfl rfl rfl rfl rfl fun ρ _ e0=>?_
    clear hJ hsame AJ hcl hsz
    go_simp
   ·intro L a w' hL hsame hsz hJ AJ hcl
    have hx:=hJ.Ah (HP3.out) (by simp)
    have q0:w'.cell? ⟨gP,0,none⟩=some (.int .i64 (-1)):=hx.cell 0
    have q1:w'.cell? ⟨gP,1,none⟩=some (.int .i64 s.pen.2.1):=hx.cell 1
    have q2:w'.cell? ⟨gP,2,none⟩=some (.int .i64 0):=hx.cell 2
    refine BG hJ hGS hcl hL 6 (.pointer (some ⟨gP,0,none⟩)) (.agg #[.int .i64 (-1),.int .i64 s.pen.2.1,.int .i64 0]) (AY hsame (by kernel_rfl)) _ rfl rfl rfl rfl rfl fun ρ _ e0=>?_
    clear hJ hsame AJ hcl hsz hx
    go_simp
   ·intro L a w' hL hsame hsz hJ AJ hcl
    have hb:=hJ.kept.toBelow (Nat.le_refl _) (by simp)
    have e0:a.eval (.tmp 68)=(.agg #[.int .i64 (s.g.rows:Nat),.int .i64 (s.g.AB:Nat),.slice A (s.g.rows*s.g.AB) cp]):=AU (j:=2) (by kernel_rfl) (hJ.valOf (by decide) (AZ AJ 2 (by kernel_rfl)) rfl rfl)
    have e1:a.eval (.tmp 70)=(.int .i64 (s.row:Nat)):=AU (j:=4) (by kernel_rfl) (hJ.valOf (by decide) (AZ AJ 4 (by kernel_rfl)) rfl rfl)
    have e2:a.eval (.tmp 72)=(.int .i64 (s.col:Nat)):=AU (j:=6) (by kernel_rfl) (hJ.valOf (by decide) (AZ AJ 6 (by kernel_rfl)) rfl rfl)
    have e3:a.eval (.tmp 73)=(.int .i64 (m:Nat)):=AU (j:=7) (by kernel_rfl) (hJ.valOf (by decide) (AZ AJ 7 (by kernel_rfl)) rfl rfl)
    have e4:a.eval (.tmp 74)=(.agg #[.int .i64 (-1),.int .i64 s.pen.2.1,.int .i64 0]):=AU (j:=8) (by kernel_rfl) (hJ.valOf (by decide) (AZ AJ 8 (by kernel_rfl)) rfl rfl)
    refine Step.call _ rfl rfl (AV rfl) 198 #[.agg #[.int .i64 (s.g.rows:Nat),.int .i64 (s.g.AB:Nat),.slice A (s.g.rows*s.g.AB) cp],.int .i64 (s.row:Nat),.int .i64 (s.col:Nat),.int .i64 (m:Nat),.agg #[.int .i64 (-1),.int .i64 s.pen.2.1,.int .i64 0]] (fun ρ hρ=>?_) ?_
    ·skip
     rw [hρ] at e0 e1 e2 e3 e4
     have ef:ρ (.func 198)=.func (.func 198) #[] #[] :=(hρ _).symm
     clear hJ hsame AJ hcl hρ hsz hb
     go_simp
    ·refine(GCX.out _ hb).mono ?_
     rintro e w2 ⟨v,rfl,⟨y,rfl,ho⟩,bb⟩
     obtain⟨A9,c9,rfl⟩:=Ad (G:=T) ⟨_,rfl,ho⟩
     exact⟨_,rfl,hJ.pred hGS hcl hL rfl bb _ ⟨A9,c9,rfl,ho⟩⟩
   ·intro L a w' hL hsame hsz hJ AJ hcl
    have hb:=hJ.kept.toBelow (Nat.le_refl _) (by simp)
    have e0:a.eval (.tmp 66)=(.agg (scA (.slice A (s.g.rows*s.g.AB) cp) s)):=AU (j:=0) (by kernel_rfl) (hJ.valOf (by decide) (AZ AJ 0 (by kernel_rfl)) rfl rfl)
    obtain⟨A9',c9',hv9,ho9⟩:=(show(Ea T) (valOf _ 9 a) w' from hJ.Cy (by decide) (AZ AJ 9 (by kernel_rfl)) rfl)
    have e1:a.eval (.tmp 75)=.agg #[.int .i64 (T.rows:Nat),.int .i64 (T.AB:Nat),.slice A9' (T.rows*T.AB) c9'] :=AU (j:=9) (by kernel_rfl) hv9
    refine Step.call _ rfl rfl (AV rfl) 192 #[.agg (scA (.slice A (s.g.rows*s.g.AB) cp) s),.agg #[.int .i64 (T.rows:Nat),.int .i64 (T.AB:Nat),.slice A9' (T.rows*T.AB) c9']] (fun ρ hρ=>?_) ?_
    ·skip
     rw [hρ] at e0 e1
     have ef:ρ (.func 192)=.func (.func 192) #[] #[] :=(hρ _).symm
     clear hJ hsame AJ hcl hρ hsz hb
     go_simp
    ·refine(WCX.out _ hb _ _ ho9).mono ?_
     rintro e w2 ⟨v,rfl,hi,bb⟩
     exact⟨_,rfl,hJ.pred hGS hcl hL rfl bb _ (D7 hi)⟩
   ·intro L u w' hF hall
    change wpList _ _ _ _ (Act.put (Act.put (Act.put (Act.put (Act.put (Act.put (Act.put (Act.put (Act.put (Act.put (Act.put (Act.put (Az _ u 0 _) (some 66) (u 0)) (some 67) (u 1)) (some 68) (u 2)) (some 69) (u 3)) (some 70) (u 4)) (some 71) (u 5)) (some 72) (u 6)) (some 73) (u 7)) (some 74) (u 8)) (some 75) (u 9)) (some 76) (u 10)) none (u 11)) _
    simp only [Az]
    obtain⟨A8,c8,fT,hi8⟩:=(show C8 t (u 10) w' from hF.Cy (j:=10) (by decide) (hall 10 (by decide)) rfl)
    have hkk:=hF.kept.toBelow (Nat.le_refl _) (by simp)
    clear hF
    generalize u 0=y0
    generalize u 1=y1
    generalize u 2=y2
    generalize u 3=y3
    generalize u 4=y4
    generalize u 5=y5
    generalize u 6=y6
    generalize u 7=y7
    generalize u 8=y8
    generalize u 9=y9
    generalize u 10=y10 at fT⊢
    generalize u 11=y11
    subst fT
    simp only [List.drop_succ_cons,List.drop_zero]
    have HR4:=hide (HR3.out.below hkk HR3.out.lt)
    have HW4:=hide (HW3.out.trans (hkk.mono HW3.out.size))
    clear HB3 HG3 HR3 HW3 HE3 HP3 hkk
    refine AQ (x:=.slice A8 (t.g.rows*t.g.AB) c8) (s:=t) HR4.out hsR rfl _ _ rfl (by((repeat(first | rw [ET] | rw [ER (by decide)]));rfl)) (by((repeat(first | rw [ET] | rw [ER (by decide)]));rw [Hr (by(repeat rw [Cm]);exact Nat.lt_of_lt_of_le (m:=122) (by decide) (Nat.le_refl 122))])) rfl ?_
    intro w8 hB8 hk8 hs8
    change Exit.then _ _ Exit.normal _ _
    go_simp
    go_step
    go_wp2_with fail
    exact BX rfl rfl rfl hB8 (hide hi8) HR4 HW4 hk8 Ai
  by_cases f88:fn=88
  ·as_aux_lemma=>
   subst f88
   have ht:(s.uG (PG.DW s.g s.row s.col (s.col+(SN.Bd l 0 1).toNat) (SN.BI s))).u5 false=t:=HT0.out
   rw [EM.out,Int.toNat_natCast] at ht
   obtain⟨T,hT⟩: ∃T,PG.DW s.g s.row s.col (s.col+m) (SN.BI s)=T:=⟨_,rfl⟩
   rw [hT] at ht
   have GC:=hide (fun w' (hb:Below w.heap.size w w')=>(show Calls Tryz.prog 199 #[.agg #[.int .i64 s.g.rows,.int .i64 s.g.AB,.slice A (s.g.rows*s.g.AB) cp],.int .i64 (s.row:Nat),.int .i64 (s.col:Nat),.int .i64 ((s.col:Int)+(m:Nat)),.agg #[.int .i64 (-1),.int .i64 s.pen.2.1,.int .i64 0]] w' (Dk w' T) from by
    have:=Xc s.g _ s.row s.col m (SN.BI s) w' HS.out.g CJ hrow (by omega) (HG0.out.low hb)
    skip
    rw [hT] at this
    exact this))
   have WC:=hide (fun w' (hb:Below w.heap.size w w') (AA:Option Addr) (cc:Nat) (ho:w'.ownsRow 0 66 5 (.slice AA (T.rows*T.AB) cc) (T.rows*T.AB) (Ag (PG.cells T)))=>(show Calls Tryz.prog 192 #[.agg (scA (.slice A (s.g.rows*s.g.AB) cp) s),.agg #[.int .i64 (T.rows:Nat),.int .i64 (T.AB:Nat),.slice AA (T.rows*T.AB) cc]] w' (BD w' t) from G7 s t _ _ T w' ht ⟨_,rfl,HG0.out.low hb⟩ ⟨_,rfl,ho⟩))
   clear HT0 ht hT
   obtain⟨e0,e1,e2,e3,e4,e5,e6⟩:=HE3.out.Bo
   go_upto_region 16 with fail
   clear e0 e1 e2 e3 e4 e5 e6
   have GCX:=hide (fun w' (hb:Below w3.heap.size w3 w')=>GC.out w' (HW3.out.trans (hb.mono HW3.out.size)))
   have WCX:=hide (fun w' (hb:Below w3.heap.size w3 w')=>WC.out w' (HW3.out.trans (hb.mono HW3.out.size)))
   go_simp
   refine Bh (n:=122) 14 [] (fun _=> #[]) [(0,0,0,0,0),(0,0,0,0,0),(0,0,0,0,0),(0,0,0,0,0),(0,0,0,0,0),(0,0,0,0,0),(0,0,0,0,0),(0,0,0,0,0),(0,0,0,0,0),(0,0,0,0,0),(0,0,0,0,0),(0,0,0,0,0),(1,0,0,0,0),(1,0,0,0,0),(0,0,0,0,0)] (fun j=> [(.agg (scA (.slice A (s.g.rows*s.g.AB) cp) s)),(.pointer (some ⟨g,0,none⟩)),(.agg #[.int .i64 (s.g.rows:Nat),.int .i64 (s.g.AB:Nat),.slice A (s.g.rows*s.g.AB) cp]),(.pointer (some ⟨g,3,none⟩)),(.int .i64 (s.row:Nat)),(.pointer (some ⟨g,4,none⟩)),(.int .i64 (s.col:Nat)),(.pointer (some ⟨g,4,none⟩)),(.int .i64 (s.col:Nat)),(.int .i64 (m:Nat)),(.int .i64 ((s.col:Int)+(m:Nat))),(.agg #[.int .i64 (-1),.int .i64 s.pen.2.1,.int .i64 0]),undef,undef,undef].getD j undef) [none,none,none,none,none,none,none,none,none,none,none,none,some (Ea T),some (C8 t)] (fun _=>0) (by kernel_rfl) (by kernel_rfl) (by kernel_rfl) rfl (by kernel_rfl) (by kernel_rfl) (Dt rfl) (fun i j h=>by revert h;exact Dt (p:=fun _=>_) rfl i) (Aj.none_ (Aj.none_ (Aj.none_ (Aj.none_ (Aj.none_ (Aj.none_ (Aj.none_ (Aj.none_ (Aj.none_ (Aj.none_ (Aj.none_ (Aj.none_ (Aj.some_ (Ea.stays (by kernel_rfl)) (Aj.some_ (C8.stays (by kernel_rfl)) (Aj.nil _))))))))))))))) (fun hGS=>OZ ⟨?_,?_,?_,?_,?_,?_,?_,?_,?_,?_,?_,?_,?_,?_⟩) ?_
   ·intro L a w' hL hsame hsz hJ AJ hcl
    have hb:=hJ.kept.toBelow (Nat.le_refl _) (by simp)
    have e0:a.eval (.tmp 2)=(.pointer (some ⟨g,0,none⟩)):=AY hsame (by kernel_rfl)
    have hx:=hJ.Ah ((show Box w3 g 43 (scA (.slice A (s.g.rows*s.g.AB) cp) s) from HB3.out)) (by simp)
    exact Step.val _ rfl rfl (AV rfl) (.agg (scA (.slice A (s.g.rows*s.g.AB) cp) s)) w' (fun ρ hρ=>Aq hx rfl ρ _ rfl ((hρ _).symm.trans e0)) (hJ.val hGS hcl hL rfl (Below.refl _ _) _ rfl)
   ·intro L a w' hL hsame hsz hJ AJ hcl
    refine BG hJ hGS hcl hL 2 (.pointer (some ⟨g,0,none⟩)) (.pointer (some ⟨g,0,none⟩)) (AY hsame (by kernel_rfl)) _ rfl rfl rfl rfl rfl fun ρ _ e0=>?_
    clear hJ hsame AJ hcl hsz
    go_simp
   ·intro L a w' hL hsame hsz hJ AJ hcl
    have hx:=hJ.Ah ((show Box w3 g 43 (scA (.slice A (s.g.rows*s.g.AB) cp) s) from HB3.out)) (by simp)
    have q0:w'.cell? ⟨g,0,none⟩=some (.int .i64 (s.g.rows:Nat)):=hx.cell 0
    have q1:w'.cell? ⟨g,1,none⟩=some (.int .i64 (s.g.AB:Nat)):=hx.cell 1
    have q2:w'.cell? ⟨g,2,none⟩=some (.slice A (s.g.rows*s.g.AB) cp):=hx.cell 2
    refine BG hJ hGS hcl hL 80 (.pointer (some ⟨g,0,none⟩)) (.agg #[.int .i64 (s.g.rows:Nat),.int .i64 (s.g.AB:Nat),.slice A (s.g.rows*s.g.AB) cp]) (gslot hJ AJ 1 (by kernel_rfl) (by kernel_rfl) (by decide) rfl rfl) _ rfl rfl rfl rfl rfl fun ρ _ e0=>?_
    clear hJ hsame AJ hcl hsz hx
    go_simp
   ·intro L a w' hL hsame hsz hJ AJ hcl
    refine BG hJ hGS hcl hL 2 (.pointer (some ⟨g,0,none⟩)) (.pointer (some ⟨g,3,none⟩)) (AY hsame (by kernel_rfl)) _ rfl rfl rfl rfl rfl fun ρ _ e0=>?_
    clear hJ hsame AJ hcl hsz
    go_simp
   ·intro L a w' hL hsame hsz hJ AJ hcl
    have q0:w'.cell? ⟨g,3,none⟩=some (.int .i64 (s.row:Nat)):=(hJ.Ah ((show Box w3 g 43 (scA (.slice A (s.g.rows*s.g.AB) cp) s) from HB3.out)) (by simp)).cell 3
    refine BG hJ hGS hcl hL 82 (.pointer (some ⟨g,3,none⟩)) (.int .i64 (s.row:Nat)) (gslot hJ AJ 3 (by kernel_rfl) (by kernel_rfl) (by decide) rfl rfl) _ rfl rfl rfl rfl rfl fun ρ _ e0=>?_
    clear hJ hsame AJ hcl hsz
    go_simp
   ·intro L a w' hL hsame hsz hJ AJ hcl
    refine BG hJ hGS hcl hL 2 (.pointer (some ⟨g,0,none⟩)) (.pointer (some ⟨g,4,none⟩)) (AY hsame (by kernel_rfl)) _ rfl rfl rfl rfl rfl fun ρ _ e0=>?_
    clear hJ hsame AJ hcl hsz
    go_simp
   ·intro L a w' hL hsame hsz hJ AJ hcl
    have q0:w'.cell? ⟨g,4,none⟩=some (.int .i64 (s.col:Nat)):=(hJ.Ah ((show Box w3 g 43 (scA (.slice A (s.g.rows*s.g.AB) cp) s) from HB3.out)) (by simp)).cell 4
    refine BG hJ hGS hcl hL 84 (.pointer (some ⟨g,4,none⟩)) (.int .i64 (s.col:Nat)) (gslot hJ AJ 5 (by kernel_rfl) (by kernel_rfl) (by decide) rfl rfl) _ rfl rfl rfl rfl rfl fun ρ _ e0=>?_
    clear hJ hsame AJ hcl hsz
    go_simp
   ·intro L a w' hL hsame hsz hJ AJ hcl
    refine BG hJ hGS hcl hL 2 (.pointer (some ⟨g,0,none⟩)) (.pointer (some ⟨g,4,none⟩)) (AY hsame (by kernel_rfl)) _ rfl rfl rfl rfl rfl fun ρ _ e0=>?_
    clear hJ hsame AJ hcl hsz
    go_simp
   ·intro L a w' hL hsame hsz hJ AJ hcl
    have q0:w'.cell? ⟨g,4,none⟩=some (.int .i64 (s.col:Nat)):=(hJ.Ah ((show Box w3 g 43 (scA (.slice A (s.g.rows*s.g.AB) cp) s) from HB3.out)) (by simp)).cell 4
    refine BG hJ hGS hcl hL 86 (.pointer (some ⟨g,4,none⟩)) (.int .i64 (s.col:Nat)) (gslot hJ AJ 7 (by kernel_rfl) (by kernel_rfl) (by decide) rfl rfl) _ rfl rfl rfl rfl rfl fun ρ _ e0=>?_
    clear hJ hsame AJ hcl hsz
    go_simp
   ·intro L a w' hL hsame hsz hJ AJ hcl
    refine BG hJ hGS hcl hL 5 (.int .i64 (m:Nat)) (.int .i64 (m:Nat)) (AY hsame (by kernel_rfl)) _ rfl rfl rfl rfl rfl fun ρ _ e0=>?_
    clear hJ hsame AJ hcl hsz
    go_simp
   ·intro L a w' hL hsame hsz hJ AJ hcl
    refine JD hJ hGS hcl hL 87 88 (.int .i64 (s.col:Nat)) (.int .i64 (m:Nat)) (.int .i64 ((s.col:Int)+(m:Nat))) (gslot hJ AJ 8 (by kernel_rfl) (by kernel_rfl) (by decide) rfl rfl) (gslot hJ AJ 9 (by kernel_rfl) (by kernel_rfl) (by decide) rfl rfl) _ rfl rfl rfl rfl rfl fun ρ _ e0 e1=>?_
    clear hJ hsame AJ hcl hsz
    go_simp
    exact IntWalk.i64_in _ (by omega)
   ·intro L a w' hL hsame hsz hJ AJ hcl
    have hx:=hJ.Ah (HP3.out) (by simp)
    have q0:w'.cell? ⟨gP,0,none⟩=some (.int .i64 (-1)):=hx.cell 0
    have q1:w'.cell? ⟨gP,1,none⟩=some (.int .i64 s.pen.2.1):=hx.cell 1
    have q2:w'.cell? ⟨gP,2,none⟩=some (.int .i64 0):=hx.cell 2
    refine BG hJ hGS hcl hL 6 (.pointer (some ⟨gP,0,none⟩)) (.agg #[.int .i64 (-1),.int .i64 s.pen.2.1,.int .i64 0]) (AY hsame (by kernel_rfl)) _ rfl rfl rfl rfl rfl fun ρ _ e0=>?_
    clear hJ hsame AJ hcl hsz hx
    go_simp
   ·intro L a w' hL hsame hsz hJ AJ hcl
    have hb:=hJ.kept.toBelow (Nat.le_refl _) (by simp)
    have e0:a.eval (.tmp 81)=(.agg #[.int .i64 (s.g.rows:Nat),.int .i64 (s.g.AB:Nat),.slice A (s.g.rows*s.g.AB) cp]):=AU (j:=2) (by kernel_rfl) (hJ.valOf (by decide) (AZ AJ 2 (by kernel_rfl)) rfl rfl)
    have e1:a.eval (.tmp 83)=(.int .i64 (s.row:Nat)):=AU (j:=4) (by kernel_rfl) (hJ.valOf (by decide) (AZ AJ 4 (by kernel_rfl)) rfl rfl)
    have e2:a.eval (.tmp 85)=(.int .i64 (s.col:Nat)):=AU (j:=6) (by kernel_rfl) (hJ.valOf (by decide) (AZ AJ 6 (by kernel_rfl)) rfl rfl)
    have e3:a.eval (.tmp 89)=(.int .i64 ((s.col:Int)+(m:Nat))):=AU (j:=10) (by kernel_rfl) (hJ.valOf (by decide) (AZ AJ 10 (by kernel_rfl)) rfl rfl)
    have e4:a.eval (.tmp 90)=(.agg #[.int .i64 (-1),.int .i64 s.pen.2.1,.int .i64 0]):=AU (j:=11) (by kernel_rfl) (hJ.valOf (by decide) (AZ AJ 11 (by kernel_rfl)) rfl rfl)
    refine Step.call _ rfl rfl (AV rfl) 199 #[.agg #[.int .i64 (s.g.rows:Nat),.int .i64 (s.g.AB:Nat),.slice A (s.g.rows*s.g.AB) cp],.int .i64 (s.row:Nat),.int .i64 (s.col:Nat),.int .i64 ((s.col:Int)+(m:Nat)),.agg #[.int .i64 (-1),.int .i64 s.pen.2.1,.int .i64 0]] (fun ρ hρ=>?_) ?_
    ·skip
     rw [hρ] at e0 e1 e2 e3 e4
     have ef:ρ (.func 199)=.func (.func 199) #[] #[] :=(hρ _).symm
     clear hJ hsame AJ hcl hρ hsz hb
     go_simp
    ·refine(GCX.out _ hb).mono ?_
     rintro e w2 ⟨v,rfl,⟨y,rfl,ho⟩,bb⟩
     obtain⟨A9,c9,rfl⟩:=Ad (G:=T) ⟨_,rfl,ho⟩
     exact⟨_,rfl,hJ.pred hGS hcl hL rfl bb _ ⟨A9,c9,rfl,ho⟩⟩
   ·intro L a w' hL hsame hsz hJ AJ hcl
    have hb:=hJ.kept.toBelow (Nat.le_refl _) (by simp)
    have e0:a.eval (.tmp 79)=(.agg (scA (.slice A (s.g.rows*s.g.AB) cp) s)):=AU (j:=0) (by kernel_rfl) (hJ.valOf (by decide) (AZ AJ 0 (by kernel_rfl)) rfl rfl)
    obtain⟨qj,ql,hv12,ho12⟩:=(show(Ea T) (valOf _ 12 a) w' from hJ.Cy (by decide) (AZ AJ 12 (by kernel_rfl)) rfl)
    have e1:a.eval (.tmp 91)=.agg #[.int .i64 (T.rows:Nat),.int .i64 (T.AB:Nat),.slice qj (T.rows*T.AB) ql] :=AU (j:=12) (by kernel_rfl) hv12
    refine Step.call _ rfl rfl (AV rfl) 192 #[.agg (scA (.slice A (s.g.rows*s.g.AB) cp) s),.agg #[.int .i64 (T.rows:Nat),.int .i64 (T.AB:Nat),.slice qj (T.rows*T.AB) ql]] (fun ρ hρ=>?_) ?_
    ·skip
     rw [hρ] at e0 e1
     have ef:ρ (.func 192)=.func (.func 192) #[] #[] :=(hρ _).symm
     clear hJ hsame AJ hcl hρ hsz hb
     go_simp
    ·refine(WCX.out _ hb _ _ ho12).mono ?_
     rintro e w2 ⟨v,rfl,hi,bb⟩
     exact⟨_,rfl,hJ.pred hGS hcl hL rfl bb _ (D7 hi)⟩
   ·intro L u w' hF hall
    change wpList _ _ _ _ (Act.put (Act.put (Act.put (Act.put (Act.put (Act.put (Act.put (Act.put (Act.put (Act.put (Act.put (Act.put (Act.put (Act.put (Act.put (Az _ u 0 _) (some 79) (u 0)) (some 80) (u 1)) (some 81) (u 2)) (some 82) (u 3)) (some 83) (u 4)) (some 84) (u 5)) (some 85) (u 6)) (some 86) (u 7)) (some 87) (u 8)) (some 88) (u 9)) (some 89) (u 10)) (some 90) (u 11)) (some 91) (u 12)) (some 92) (u 13)) none (u 14)) _
    simp only [Az]
    obtain⟨A8,c8,fT,hi8⟩:=(show C8 t (u 13) w' from hF.Cy (j:=13) (by decide) (hall 13 (by decide)) rfl)
    have hkk:=hF.kept.toBelow (Nat.le_refl _) (by simp)
    clear hF
    generalize u 0=y0
    generalize u 1=y1
    generalize u 2=y2
    generalize u 3=y3
    generalize u 4=y4
    generalize u 5=y5
    generalize u 6=y6
    generalize u 7=y7
    generalize u 8=y8
    generalize u 9=y9
    generalize u 10=y10
    generalize u 11=y11
    generalize u 12=y12
    generalize u 13=y13 at fT⊢
    generalize u 14=y14
    subst fT
    simp only [List.drop_succ_cons,List.drop_zero]
    have HR4:=hide (HR3.out.below hkk HR3.out.lt)
    have HW4:=hide (HW3.out.trans (hkk.mono HW3.out.size))
    clear HB3 HG3 HR3 HW3 HE3 HP3 hkk
    refine AQ (x:=.slice A8 (t.g.rows*t.g.AB) c8) (s:=t) HR4.out hsR rfl _ _ rfl (by((repeat(first | rw [ET] | rw [ER (by decide)]));rfl)) (by((repeat(first | rw [ET] | rw [ER (by decide)]));rw [Hr (by(repeat rw [Cm]);exact Nat.lt_of_lt_of_le (m:=122) (by decide) (Nat.le_refl 122))])) rfl ?_
    intro w8 hB8 hk8 hs8
    change Exit.then _ _ Exit.normal _ _
    go_simp
    go_step
    go_wp2_with fail
    exact BX rfl rfl rfl hB8 (hide hi8) HR4 HW4 hk8 Ai
  by_cases f83:fn=83
  ·as_aux_lemma=>
   subst f83
   have ht:s.uG (PG.Am s.g s.top s.bot ((SN.Bd l 0 1)) (SN.BI s))=t:=HT0.out
   rw [EM.out] at ht
   obtain⟨T,hT⟩: ∃T,PG.Am s.g s.top s.bot ((m:Int)) (SN.BI s)=T:=⟨_,rfl⟩
   rw [hT] at ht
   have HTT:=hide ht
   have GC:=hide (fun w' (hb:Below w.heap.size w w') (h:IsG w' s.g (gv s.g.rows s.g.AB (.slice A (s.g.rows*s.g.AB) cp)))=>(show Calls Tryz.prog 110 #[.agg #[.int .i64 s.g.rows,.int .i64 s.g.AB,.slice A (s.g.rows*s.g.AB) cp],.int .i64 (s.top:Nat),.int .i64 (s.bot:Nat),.int .i64 (m:Nat),.agg #[.int .i64 (-1),.int .i64 s.pen.2.1,.int .i64 0]] w' (Dk w' T) from by
    have:=mY (w:=w') HS.out.g h s.top s.bot m (SN.BI s) (SN.Bz HS.out) (by omega) (by omega) (by omega)
    have SI:PG.DI s.g s.top s.bot ((m:Int)) (SN.BI s)=PG.Am s.g s.top s.bot ((m:Int)) (SN.BI s):=(if_pos ⟨by omega,by omega⟩).trans (by simp)
    rw [SI,hT] at this
    exact this))
   clear HT0 ht hT
   have e4:w3.cell? ⟨gE,4,none⟩=some (.int .u8 83):=HE3.out.cell 4
   have k0:=HB3.out.c0
   have k1:=HB3.out.c1
   have k2:=HB3.out.c2
   have k6:=HB3.out.c6
   have k7:=HB3.out.c7
   have p0:w3.cell? ⟨gP,0,none⟩=some (.int .i64 (-1)):=HP3.out.cell 0
   have p1:w3.cell? ⟨gP,1,none⟩=some (.int .i64 s.pen.2.1):=HP3.out.cell 1
   have p2:w3.cell? ⟨gP,2,none⟩=some (.int .i64 0):=HP3.out.cell 2
   go_wp2_with fail
   refine(GC.out _ HW3.out HG3.out).mono ?_
   rintro e w4 ⟨v4,rfl,hi4,hb4⟩
   obtain⟨y4,rfl,hy4⟩:=hi4
   obtain⟨A4,c4,rfl⟩:=Ad (G:=T) ⟨_,rfl,hy4⟩
   have HT4:=hide (show IsG w4 T (gv T.rows T.AB (.slice A4 (T.rows*T.AB) c4)) from⟨_,rfl,hy4⟩)
   obtain⟨HB4,HR4,HW4,HG4⟩:=Jo hb4 HB3 HR3 HW3 HG3
   have HE4:=hide (HE3.out.below hb4 HE3.out.lt)
   have HP4:=hide (HP3.out.below hb4 HP3.out.lt)
   clear e4 k0 k1 k2 k6 k7 p0 p1 p2
   clear HB3 HR3 HW3 HG3 HE3 HP3 hb4
   clear hy4 HG4
   go_upto_region 19 with (refine Cc (y:=.slice A4 (T.rows*T.AB) c4) (G:=T) HB4.out rfl _ _ rfl rfl rfl rfl ?_;intro w5 hB5 hk5 hs5)
   have HB5:=hide hB5
   have HR5:=hide (HR4.out.kept hk5 (by simp;exact hne))
   have HW5:=hide (HW4.out.trans (hk5.toBelow HW4.out.size (fun k hh=>by simp at hh;omega)))
   have HG5:=hide (HT4.out.kept HB4.out (by decide) hk5)
   clear hB5 hk5 hs5 HB4 HR4 HW4 HT4 HE4 HP4
   go_wp2_with (first | (refine AX HB5.out rfl _ rfl rfl ?_) | (refine AQ HR5.out hsR rfl _ _ rfl rfl rfl rfl ?_;intro w8 hB8 hk8 hs8))
   have htt:=HTT.out
   subst htt
   exact BX rfl rfl rfl hB8 HG5 HR5 HW5 hk8 Ai
  by_cases f84:fn=84
  ·as_aux_lemma=>
   subst f84
   have ht:s.uG (PG.Am s.g s.top s.bot (-(SN.Bd l 0 1)) (SN.BI s))=t:=HT0.out
   rw [EM.out] at ht
   obtain⟨T,hT⟩: ∃T,PG.Am s.g s.top s.bot (-(m:Int)) (SN.BI s)=T:=⟨_,rfl⟩
   rw [hT] at ht
   have HTT:=hide ht
   have GC:=hide (fun w' (hb:Below w.heap.size w w') (h:IsG w' s.g (gv s.g.rows s.g.AB (.slice A (s.g.rows*s.g.AB) cp)))=>(show Calls Tryz.prog 190 #[.agg #[.int .i64 s.g.rows,.int .i64 s.g.AB,.slice A (s.g.rows*s.g.AB) cp],.int .i64 (s.top:Nat),.int .i64 (s.bot:Nat),.int .i64 (m:Nat),.agg #[.int .i64 (-1),.int .i64 s.pen.2.1,.int .i64 0]] w' (Dk w' T) from by
    have:=Ta (w:=w') HS.out.g h s.top s.bot m (SN.BI s) (SN.Bz HS.out) (by omega) (by omega) (by omega)
    have SI:PG.DI s.g s.top s.bot (-(m:Int)) (SN.BI s)=PG.Am s.g s.top s.bot (-(m:Int)) (SN.BI s):=(if_pos ⟨by omega,by omega⟩).trans (by simp)
    rw [SI,hT] at this
    exact this))
   clear HT0 ht hT
   have e4:w3.cell? ⟨gE,4,none⟩=some (.int .u8 84):=HE3.out.cell 4
   have k0:=HB3.out.c0
   have k1:=HB3.out.c1
   have k2:=HB3.out.c2
   have k6:=HB3.out.c6
   have k7:=HB3.out.c7
   have p0:w3.cell? ⟨gP,0,none⟩=some (.int .i64 (-1)):=HP3.out.cell 0
   have p1:w3.cell? ⟨gP,1,none⟩=some (.int .i64 s.pen.2.1):=HP3.out.cell 1
   have p2:w3.cell? ⟨gP,2,none⟩=some (.int .i64 0):=HP3.out.cell 2
   go_wp2_with fail
   refine(GC.out _ HW3.out HG3.out).mono ?_
   rintro e w4 ⟨v4,rfl,hi4,hb4⟩
   obtain⟨y4,rfl,hy4⟩:=hi4
   obtain⟨A4,c4,rfl⟩:=Ad (G:=T) ⟨_,rfl,hy4⟩
   have HT4:=hide (show IsG w4 T (gv T.rows T.AB (.slice A4 (T.rows*T.AB) c4)) from⟨_,rfl,hy4⟩)
   obtain⟨HB4,HR4,HW4,HG4⟩:=Jo hb4 HB3 HR3 HW3 HG3
   have HE4:=hide (HE3.out.below hb4 HE3.out.lt)
   have HP4:=hide (HP3.out.below hb4 HP3.out.lt)
   clear e4 k0 k1 k2 k6 k7 p0 p1 p2
   clear HB3 HR3 HW3 HG3 HE3 HP3 hb4
   clear hy4 HG4
   go_upto_region 22 with (refine Cc (y:=.slice A4 (T.rows*T.AB) c4) (G:=T) HB4.out rfl _ _ rfl rfl rfl rfl ?_;intro w5 hB5 hk5 hs5)
   have HB5:=hide hB5
   have HR5:=hide (HR4.out.kept hk5 (by simp;exact hne))
   have HW5:=hide (HW4.out.trans (hk5.toBelow HW4.out.size (fun k hh=>by simp at hh;omega)))
   have HG5:=hide (HT4.out.kept HB4.out (by decide) hk5)
   clear hB5 hk5 hs5 HB4 HR4 HW4 HT4 HE4 HP4
   go_wp2_with (first | (refine AX HB5.out rfl _ rfl rfl ?_) | (refine AQ HR5.out hsR rfl _ _ rfl rfl rfl rfl ?_;intro w8 hB8 hk8 hs8))
   have htt:=HTT.out
   subst htt
   exact BX rfl rfl rfl hB8 HG5 HR5 HW5 hk8 Ai
  have q74:(fn==74)=false:=by simp;omega
  have q75:(fn==75)=false:=by simp;omega
  have q76:(fn==76)=false:=by simp;omega
  have q77:(fn==77)=false:=by simp;omega
  have q64:(fn==64)=false:=by simp;omega
  have q80:(fn==80)=false:=by simp;omega
  have q88:(fn==88)=false:=by simp;omega
  have q83:(fn==83)=false:=by simp;omega
  have q84:(fn==84)=false:=by simp;omega
  have AT:=hide (fun w' v' (hb:Below w.heap.size w w') h=>(show Calls Tryz.prog 200 #[v',.agg #[.int .i64 kd,.int .i32 rn,.int .u8 pv,.int .u8 it,.int .u8 fn,.slice Ae n c,.string tx]] w' (BD w' t) from HT0.out▸Zw s v' kd rn pv it fn Ae n c B tx l w' HS.out (HL.out.below (hb.mono hB)) (Nat.le_trans hB hb.size) hn hnc HLB.out (HF.out.keep hb) ⟨f74,f75,f76,f77,f64,f80,f88,f83,f84⟩ h))
  clear HT0 f74 f75 f76 f77 f64 f80 f88 f83 f84
  obtain⟨e0,e1,e2,e3,e4,e5,e6⟩:=HE3.out.Bo
  go_wp2_with (refine AX HB3.out rfl _ rfl rfl ?_)
  refine(AT.out _ _ HW3.out ⟨_,rfl,HG3.out⟩).mono (Al HR3 HW3 fun A7 c7 w7 HR7 HW7 HG7=>?_)
  clear e0 e1 e2 e3 e4 e5 e6
  clear HB3 HR3 HW3 HG3 HE3 HP3
  go_wp2_with (refine AQ HR7.out hsR rfl _ _ rfl rfl rfl rfl ?_;intro w8 hB8 hk8 hs8)
  exact BX rfl rfl rfl hB8 HG7 HR7 HW7 hk8 Ai
end Go.Proofs.YtoaabebgmdbjeaaGreatDoor
