/- A part of the proof: ScreenRef, ArgScreen, TabsLaid. -/
import Derived.Test.YtoaabebgmdbjeaaGreatDoorRq08
set_option maxRecDepth 100000
set_option maxHeartbeats 16000000
set_option linter.unusedVariables false
namespace Go.Proofs.YtoaabebgmdbjeaaGreatDoor
open Go.RowKit
end Go.Proofs.YtoaabebgmdbjeaaGreatDoor
namespace Go.Proofs.YtoaabebgmdbjeaaGreatDoor
open Go.RowKit
theorem PN (kr kc kt kb kf ka kg kh pa pb pf:Int) (qa qb qf:Int) (rr rc b d tp bt vr vc:Nat) (f8 f0 f1 f2 f3 f4 f5 f6 f7 lc:Bool) (K0 K1 K2 K3:Value) (tabs:Nat) (G:PG.Gr) (T:SN.Sc) (w:World) (hG:PG.BL G) (hR40:G.rows<=40) (hK60:G.AB<=60) (hR1:1<=G.rows) (hK1:1<=G.AB) (htp:tp<=1000) (hbt:bt<=1000) (hrr:rr<=1000) (hrc:rc<=1000) (HB0:Hid ((bits .and .i64 kf 1==0)=f0)) (HB1:Hid ((bits .and .i64 kf 2==2)=f1)) (HB2:Hid ((bits .and .i64 kf 4==0)=f2)) (HB3:Hid ((bits .and .i64 kf 8==8)=f3)) (HB4:Hid ((bits .and .i64 kf 16==16)=f4)) (HB5:Hid ((bits .and .i64 kf 32==32)=f5)) (HB6:Hid ((bits .and .i64 kf 64==64)=f6)) (HB7:Hid ((bits .and .i64 kf 128==128)=f7)) (HB8:Hid ((bits .and .i64 kf 256==256)=f8)) (HFT:Hid (((((((((((((⟨G,rr,rc,false,0,b,(pa,pb,pf),tabs,66,66,0,false,false,false,false,false,⟨0,0,(0,0,0),0,0,0,false⟩⟩:SN.Sc).u6 tp).u7 bt).u15 f0).u16 f1).u17 f2).u18 f3).u19 f4).u5 (f0&&lc&&f5)).u12 (if f6=true then 48 else 66)).u14 (if f7=true then 1 else 0)).uV ⟨vr,vc,(qa,qb,qf),66,48,0,f8⟩)=T)) (HLC:Hid (((rc:Int)==(G.AB:Int)-1)=lc))
  (EB:Hid ((G.rows:Int)-1=(b:Int))) (ED:Hid ((G.AB:Int)-1=(d:Int))) (EBW:Hid (IntKind.i64.wrap ((G.rows:Int)-1)=(b:Int))) (EDW:Hid (IntKind.i64.wrap ((G.AB:Int)-1)=(d:Int)))
  (HT:Hid ((1<G.rows->(∀w',Calls Tryz.prog 20 #[.int .i64 kt,.int .i64 0,.int .i64 ((G.rows:Int)-2)] w' fun e w''=>e=.returned (.int .i64 (tp:Nat))/\w'=w'')/\(∀w',Calls Tryz.prog 20 #[.int .i64 kb,.int .i64 ((tp:Int)+1),.int .i64 ((G.rows:Int)-1)] w' fun e w''=>e=.returned (.int .i64 (bt:Nat))/\w'=w''))/\(¬1<G.rows->tp=0/\bt=b)))
  (WR:Hid (∀w',Calls Tryz.prog 20 #[.int .i64 kr,.int .i64 0,.int .i64 (b:Nat)] w' fun e w''=>e=.returned (.int .i64 (rr:Nat))/\w'=w''))
  (WC:Hid (∀w',Calls Tryz.prog 20 #[.int .i64 kc,.int .i64 0,.int .i64 (d:Nat)] w' fun e w''=>e=.returned (.int .i64 (rc:Nat))/\w'=w''))
  (VR:Hid (∀w',Calls Tryz.prog 20 #[.int .i64 kc,.int .i64 0,.int .i64 (b:Nat)] w' fun e w''=>e=.returned (.int .i64 (vr:Nat))/\w'=w''))
  (VC:Hid (∀w',Calls Tryz.prog 20 #[.int .i64 kr,.int .i64 0,.int .i64 (d:Nat)] w' fun e w''=>e=.returned (.int .i64 (vc:Nat))/\w'=w''))
  (KQ:Hid (∀w',Calls Tryz.prog 36 #[.agg #[.int .i64 kf,.int .i64 0,.int .i64 0]] w' fun e w''=>e=.returned (.agg #[.int .i64 qa,.int .i64 qb,.int .i64 qf])/\Below w'.heap.size w' w''))
  (KP:Hid (∀w',Calls Tryz.prog 36 #[.agg #[.int .i64 ka,.int .i64 kg,.int .i64 kh]] w' fun e w''=>e=.returned (.agg #[.int .i64 pa,.int .i64 pb,.int .i64 pf])/\Below w'.heap.size w' w''))
  (KG:Hid (∀w',Below w.heap.size w w'->Calls Tryz.prog 35 #[.agg #[K0,K1,K2,K3]] w' (DN w' G))):
  Calls Tryz.prog 11 #[.agg #[K0,K1,K2,K3,.int .i64 kr,.int .i64 kc,.int .i64 kt,.int .i64 kb,.int .i64 kf,.int .i64 ka,.int .i64 kg,.int .i64 kh,.int .u64 tabs]] w (Az w T):=by
 have HK0:=hide (Box.new w 29 #[K0,K1,K2,K3,.int .i64 kr,.int .i64 kc,.int .i64 kt,.int .i64 kb,.int .i64 kf,.int .i64 ka,.int .i64 kg,.int .i64 kh,.int .u64 tabs])
 have HW0:=hide ((Below.refl w.heap.size w).alloc (Nat.le_refl _) (.cells #[K0,K1,K2,K3,.int .i64 kr,.int .i64 kc,.int .i64 kt,.int .i64 kb,.int .i64 kf,.int .i64 ka,.int .i64 kg,.int .i64 kh,.int .u64 tabs] 29))
 go_enter Tryz.func11,Tryz.ntmps11
 go_upto_region 1 with (refine Bb rfl rfl ?_;intro gR w2 csR hR hsR hb2 hgR)
 have HK2:=hide (HK0.out.below hb2 HK0.out.lt)
 have HW2:=hide (HW0.out.trans (hb2.mono HW0.out.size))
 have hgRw:w.heap.size<gR:=by have:=HK0.out.lt;omega
 generalize w.alloc (.cells #[K0,K1,K2,K3,.int .i64 kr,.int .i64 kc,.int .i64 kt,.int .i64 kb,.int .i64 kf,.int .i64 ka,.int .i64 kg,.int .i64 kh,.int .u64 tabs] 29)=w1 at*
 have hk0:=HK2.out.cell 0
 have hk1:=HK2.out.cell 1
 have hk2:=HK2.out.cell 2
 have hk3:=HK2.out.cell 3
 clear hb2 hgR
 go_wp2_with fail
 refine(KG.out _ HW2.out).mono ?_
 rintro e w3 ⟨v3,rfl,hg3,hb3⟩
 obtain⟨y,rfl,hown⟩:=hg3
 obtain⟨A3,c3,rfl⟩:=Af (G:=G) ⟨_,rfl,hown⟩
 simp only [gv]
 go_upto_region 2 with fail
 have HG3:=hide (show IsG w3 G (gv G.rows G.AB (.slice A3 (G.rows*G.AB) c3)) from⟨_,rfl,hown⟩)
 have PO:=hide (Box.new w3 37 #[.int .i64 (G.rows:Nat),.int .i64 (G.AB:Nat),.slice A3 (G.rows*G.AB) c3])
 have HK4:=hide ((HK2.out.below hb3 HK2.out.lt).alloc (.cells #[.int .i64 (G.rows:Nat),.int .i64 (G.AB:Nat),.slice A3 (G.rows*G.AB) c3] 37))
 have HR4:=hide ((hR.below hb3 hR.lt).alloc (.cells #[.int .i64 (G.rows:Nat),.int .i64 (G.AB:Nat),.slice A3 (G.rows*G.AB) c3] 37))
 have hw3:=HW2.out.trans (hb3.mono HW2.out.size)
 have HW4:=hide (hw3.alloc hw3.size (.cells #[.int .i64 (G.rows:Nat),.int .i64 (G.AB:Nat),.slice A3 (G.rows*G.AB) c3] 37))
 have HG4:=hide (HG3.out.low ((Below.refl _ w3).alloc (Nat.le_refl _) (.cells #[.int .i64 (G.rows:Nat),.int .i64 (G.AB:Nat),.slice A3 (G.rows*G.AB) c3] 37)))
 have hgGR:gR<w3.heap.size:=Nat.lt_of_lt_of_le hR.lt hb3.size
 generalize hgG:w3.heap.size=gG at*
 generalize w3.alloc (.cells #[.int .i64 (G.rows:Nat),.int .i64 (G.AB:Nat),.slice A3 (G.rows*G.AB) c3] 37)=w4 at PO HK4 HR4 HW4 HG4⊢
 clear hgG hw3 hown hb3 HG3 hk0 hk1 hk2 hk3 HK0 HW0 HK2 HW2 hR KG
 go_cut [4] from 9 to 31 (fun u wx=> ∃gS,u=.pointer (some ⟨gS,0,none⟩)/\w4.heap.size<=gS/\Am wx gS (.slice A3 (G.rows*G.AB) c3) ⟨G,rr,rc,false,0,b,(pa,pb,pf),tabs,66,66,0,false,false,false,false,false,⟨0,0,(0,0,0),0,0,0,false⟩⟩/\Below w4.heap.size w4 wx)
 case first=>
  refine Bc (n:=122) 24 [] (fun _=> #[]) [(0,0,0,0,0),(0,0,0,0,0),(0,0,0,0,0),(0,0,0,0,0),(0,0,0,0,0),(0,0,0,0,0),(0,0,0,0,0),(0,0,0,0,0),(0,0,0,0,0),(0,0,0,0,0),(0,0,0,0,0),(0,0,0,0,0),(0,0,0,0,0),(0,0,0,0,0),(0,0,0,0,0),(0,0,0,0,0),(0,0,0,0,0),(0,0,0,0,0),(0,0,0,0,0),(0,0,0,0,0),(0,0,0,0,0),(0,0,0,0,0),(0,0,0,0,0),(2,0,0,43,29),(0,0,0,0,0)] (fun j=> [(.agg #[.int .i64 (G.rows:Nat),.int .i64 (G.AB:Nat),.slice A3 (G.rows*G.AB) c3]),(.pointer (some ⟨w.heap.size,4,none⟩)),(.int .i64 kr),(.pointer (some ⟨gG,0,none⟩)),(.int .i64 (G.rows:Nat)),(.int .i64 (b:Nat)),(.int .i64 (rr:Nat)),(.pointer (some ⟨w.heap.size,5,none⟩)),(.int .i64 kc),(.pointer (some ⟨gG,1,none⟩)),(.int .i64 (G.AB:Nat)),(.int .i64 (d:Nat)),(.int .i64 (rc:Nat)),(.pointer (some ⟨gG,0,none⟩)),(.int .i64 (G.rows:Nat)),(.int .i64 (b:Nat)),(.pointer (some ⟨w.heap.size,9,none⟩)),(.agg #[.int .i64 ka,.int .i64 kg,.int .i64 kh]),(.agg #[.int .i64 pa,.int .i64 pb,.int .i64 pf]),(.pointer (some ⟨w.heap.size,12,none⟩)),(.int .u64 (tabs:Nat)),(.agg #[.int .u8 66,.int .u8 66]),(.agg (scA (.slice A3 (G.rows*G.AB) c3) ⟨G,rr,rc,false,0,b,(pa,pb,pf),tabs,66,66,0,false,false,false,false,false,⟨0,0,(0,0,0),0,0,0,false⟩⟩)),undef,undef].getD j undef) [] (fun _=>0) (by kernel_rfl) (by kernel_rfl) (by kernel_rfl) rfl (by kernel_rfl) (by kernel_rfl) (Dj rfl) (fun i j h=>by revert h;exact Dj (p:=fun _=>_) rfl i) (Ah.nil _) (fun hGS=>Uu ⟨?_,?_,?_,?_,?_,?_,?_,?_,?_,?_,?_,?_,?_,?_,?_,?_,?_,?_,?_,?_,?_,?_,?_,?_⟩) ?_
  ·intro L a w' hL hsame hsz hJ AJ hcl
   have hx:=hJ.Ai (PO.out) (by simp)
   have q0:w'.cell? ⟨gG,0,none⟩=some (.int .i64 (G.rows:Nat)):=hx.cell 0
   have q1:w'.cell? ⟨gG,1,none⟩=some (.int .i64 (G.AB:Nat)):=hx.cell 1
   have q2:w'.cell? ⟨gG,2,none⟩=some (.slice A3 (G.rows*G.AB) c3):=hx.cell 2
   refine BA hJ hGS hcl hL 3 (.pointer (some ⟨gG,0,none⟩)) (.agg #[.int .i64 (G.rows:Nat),.int .i64 (G.AB:Nat),.slice A3 (G.rows*G.AB) c3]) (AY hsame (by kernel_rfl)) _ rfl rfl rfl rfl rfl fun ρ _ e0=>?_
   clear hJ hsame AJ hcl hsz hx
   go_simp
  ·intro L a w' hL hsame hsz hJ AJ hcl
   refine BA hJ hGS hcl hL 1 (.pointer (some ⟨w.heap.size,0,none⟩)) (.pointer (some ⟨w.heap.size,4,none⟩)) (AY hsame (by kernel_rfl)) _ rfl rfl rfl rfl rfl fun ρ _ e0=>?_
   clear hJ hsame AJ hcl hsz
   go_simp
  ·intro L a w' hL hsame hsz hJ AJ hcl
   have q0:w'.cell? ⟨w.heap.size,4,none⟩=some (.int .i64 kr):=(hJ.Ai (HK4.out) (by simp)).cell 4
   refine BA hJ hGS hcl hL 10 (.pointer (some ⟨w.heap.size,4,none⟩)) (.int .i64 kr) (gslot hJ AJ 1 (by kernel_rfl) (by kernel_rfl) (by decide) rfl rfl) _ rfl rfl rfl rfl rfl fun ρ _ e0=>?_
   clear hJ hsame AJ hcl hsz
   go_simp
  ·intro L a w' hL hsame hsz hJ AJ hcl
   refine BA hJ hGS hcl hL 3 (.pointer (some ⟨gG,0,none⟩)) (.pointer (some ⟨gG,0,none⟩)) (AY hsame (by kernel_rfl)) _ rfl rfl rfl rfl rfl fun ρ _ e0=>?_
   clear hJ hsame AJ hcl hsz
   go_simp
  ·intro L a w' hL hsame hsz hJ AJ hcl
   have q0:w'.cell? ⟨gG,0,none⟩=some (.int .i64 (G.rows:Nat)):=(hJ.Ai (PO.out) (by simp)).cell 0
   refine BA hJ hGS hcl hL 12 (.pointer (some ⟨gG,0,none⟩)) (.int .i64 (G.rows:Nat)) (gslot hJ AJ 3 (by kernel_rfl) (by kernel_rfl) (by decide) rfl rfl) _ rfl rfl rfl rfl rfl fun ρ _ e0=>?_
   clear hJ hsame AJ hcl hsz
   go_simp
  ·intro L a w' hL hsame hsz hJ AJ hcl
   refine BA hJ hGS hcl hL 13 (.int .i64 (G.rows:Nat)) (.int .i64 (b:Nat)) (gslot hJ AJ 4 (by kernel_rfl) (by kernel_rfl) (by decide) rfl rfl) _ rfl rfl rfl rfl rfl fun ρ hc e0=>?_
   have ec0:=hc (.int .i64 1)
   clear hJ hsame AJ hcl hsz
   go_simp
   exact EBW.out
  ·intro L a w' hL hsame hsz hJ AJ hcl
   have hb:=hJ.kept.toBelow (Nat.le_refl _) (by simp)
   have e0:a.eval (.tmp 11)=(.int .i64 kr):=AV (j:=2) (by kernel_rfl) (hJ.valOf (by decide) (AZ AJ 2 (by kernel_rfl)) rfl rfl)
   have e2:a.eval (.tmp 14)=(.int .i64 (b:Nat)):=AV (j:=5) (by kernel_rfl) (hJ.valOf (by decide) (AZ AJ 5 (by kernel_rfl)) rfl rfl)
   refine Step.call _ rfl rfl (AX rfl) 20 #[.int .i64 kr,.int .i64 0,.int .i64 (b:Nat)] (fun ρ hρ=>?_) ?_
   ·skip
    rw [hρ] at e0 e2
    have ec0:ρ (.const (.int .i64 0))=(.int .i64 0):=(hρ _).symm
    have ef:ρ (.func 20)=.func (.func 20) #[] #[] :=(hρ _).symm
    clear hJ hsame AJ hcl hρ hsz hb
    go_simp
   ·refine(WR.out _).mono ?_
    rintro e w2 ⟨rfl,rfl⟩
    exact⟨_,rfl,hJ.val hGS hcl hL rfl (Below.refl _ _) _ rfl⟩
  ·intro L a w' hL hsame hsz hJ AJ hcl
   refine BA hJ hGS hcl hL 1 (.pointer (some ⟨w.heap.size,0,none⟩)) (.pointer (some ⟨w.heap.size,5,none⟩)) (AY hsame (by kernel_rfl)) _ rfl rfl rfl rfl rfl fun ρ _ e0=>?_
   clear hJ hsame AJ hcl hsz
   go_simp
  ·intro L a w' hL hsame hsz hJ AJ hcl
   have q0:w'.cell? ⟨w.heap.size,5,none⟩=some (.int .i64 kc):=(hJ.Ai (HK4.out) (by simp)).cell 5
   refine BA hJ hGS hcl hL 16 (.pointer (some ⟨w.heap.size,5,none⟩)) (.int .i64 kc) (gslot hJ AJ 7 (by kernel_rfl) (by kernel_rfl) (by decide) rfl rfl) _ rfl rfl rfl rfl rfl fun ρ _ e0=>?_
   clear hJ hsame AJ hcl hsz
   go_simp
  ·intro L a w' hL hsame hsz hJ AJ hcl
   refine BA hJ hGS hcl hL 3 (.pointer (some ⟨gG,0,none⟩)) (.pointer (some ⟨gG,1,none⟩)) (AY hsame (by kernel_rfl)) _ rfl rfl rfl rfl rfl fun ρ _ e0=>?_
   clear hJ hsame AJ hcl hsz
   go_simp
  ·intro L a w' hL hsame hsz hJ AJ hcl
   have q0:w'.cell? ⟨gG,1,none⟩=some (.int .i64 (G.AB:Nat)):=(hJ.Ai (PO.out) (by simp)).cell 1
   refine BA hJ hGS hcl hL 18 (.pointer (some ⟨gG,1,none⟩)) (.int .i64 (G.AB:Nat)) (gslot hJ AJ 9 (by kernel_rfl) (by kernel_rfl) (by decide) rfl rfl) _ rfl rfl rfl rfl rfl fun ρ _ e0=>?_
   clear hJ hsame AJ hcl hsz
   go_simp
  ·intro L a w' hL hsame hsz hJ AJ hcl
   refine BA hJ hGS hcl hL 19 (.int .i64 (G.AB:Nat)) (.int .i64 (d:Nat)) (gslot hJ AJ 10 (by kernel_rfl) (by kernel_rfl) (by decide) rfl rfl) _ rfl rfl rfl rfl rfl fun ρ hc e0=>?_
   have ec0:=hc (.int .i64 1)
   clear hJ hsame AJ hcl hsz
   go_simp
   exact EDW.out
  ·intro L a w' hL hsame hsz hJ AJ hcl
   have hb:=hJ.kept.toBelow (Nat.le_refl _) (by simp)
   have e0:a.eval (.tmp 17)=(.int .i64 kc):=AV (j:=8) (by kernel_rfl) (hJ.valOf (by decide) (AZ AJ 8 (by kernel_rfl)) rfl rfl)
   have e2:a.eval (.tmp 20)=(.int .i64 (d:Nat)):=AV (j:=11) (by kernel_rfl) (hJ.valOf (by decide) (AZ AJ 11 (by kernel_rfl)) rfl rfl)
   refine Step.call _ rfl rfl (AX rfl) 20 #[.int .i64 kc,.int .i64 0,.int .i64 (d:Nat)] (fun ρ hρ=>?_) ?_
   ·skip
    rw [hρ] at e0 e2
    have ec0:ρ (.const (.int .i64 0))=(.int .i64 0):=(hρ _).symm
    have ef:ρ (.func 20)=.func (.func 20) #[] #[] :=(hρ _).symm
    clear hJ hsame AJ hcl hρ hsz hb
    go_simp
   ·refine(WC.out _).mono ?_
    rintro e w2 ⟨rfl,rfl⟩
    exact⟨_,rfl,hJ.val hGS hcl hL rfl (Below.refl _ _) _ rfl⟩
  ·intro L a w' hL hsame hsz hJ AJ hcl
   refine BA hJ hGS hcl hL 3 (.pointer (some ⟨gG,0,none⟩)) (.pointer (some ⟨gG,0,none⟩)) (AY hsame (by kernel_rfl)) _ rfl rfl rfl rfl rfl fun ρ _ e0=>?_
   clear hJ hsame AJ hcl hsz
   go_simp
  ·intro L a w' hL hsame hsz hJ AJ hcl
   have q0:w'.cell? ⟨gG,0,none⟩=some (.int .i64 (G.rows:Nat)):=(hJ.Ai (PO.out) (by simp)).cell 0
   refine BA hJ hGS hcl hL 22 (.pointer (some ⟨gG,0,none⟩)) (.int .i64 (G.rows:Nat)) (gslot hJ AJ 13 (by kernel_rfl) (by kernel_rfl) (by decide) rfl rfl) _ rfl rfl rfl rfl rfl fun ρ _ e0=>?_
   clear hJ hsame AJ hcl hsz
   go_simp
  ·intro L a w' hL hsame hsz hJ AJ hcl
   refine BA hJ hGS hcl hL 23 (.int .i64 (G.rows:Nat)) (.int .i64 (b:Nat)) (gslot hJ AJ 14 (by kernel_rfl) (by kernel_rfl) (by decide) rfl rfl) _ rfl rfl rfl rfl rfl fun ρ hc e0=>?_
   have ec0:=hc (.int .i64 1)
   clear hJ hsame AJ hcl hsz
   go_simp
   exact EBW.out
  ·intro L a w' hL hsame hsz hJ AJ hcl
   refine BA hJ hGS hcl hL 1 (.pointer (some ⟨w.heap.size,0,none⟩)) (.pointer (some ⟨w.heap.size,9,none⟩)) (AY hsame (by kernel_rfl)) _ rfl rfl rfl rfl rfl fun ρ _ e0=>?_
   clear hJ hsame AJ hcl hsz
   go_simp
  ·intro L a w' hL hsame hsz hJ AJ hcl
   have hx:=hJ.Ai (HK4.out) (by simp)
   have q0:w'.cell? ⟨w.heap.size,9,none⟩=some (.int .i64 ka):=hx.cell 9
   have q1:w'.cell? ⟨w.heap.size,10,none⟩=some (.int .i64 kg):=hx.cell 10
   have q2:w'.cell? ⟨w.heap.size,11,none⟩=some (.int .i64 kh):=hx.cell 11
   refine BA hJ hGS hcl hL 25 (.pointer (some ⟨w.heap.size,9,none⟩)) (.agg #[.int .i64 ka,.int .i64 kg,.int .i64 kh]) (gslot hJ AJ 16 (by kernel_rfl) (by kernel_rfl) (by decide) rfl rfl) _ rfl rfl rfl rfl rfl fun ρ _ e0=>?_
   clear hJ hsame AJ hcl hsz hx
   go_simp
  ·intro L a w' hL hsame hsz hJ AJ hcl
   have hb:=hJ.kept.toBelow (Nat.le_refl _) (by simp)
   have e0:a.eval (.tmp 26)=(.agg #[.int .i64 ka,.int .i64 kg,.int .i64 kh]):=AV (j:=17) (by kernel_rfl) (hJ.valOf (by decide) (AZ AJ 17 (by kernel_rfl)) rfl rfl)
   refine Step.call _ rfl rfl (AX rfl) 36 #[.agg #[.int .i64 ka,.int .i64 kg,.int .i64 kh]] (fun ρ hρ=>?_) ?_
   ·skip
    rw [hρ] at e0
    have ef:ρ (.func 36)=.func (.func 36) #[] #[] :=(hρ _).symm
    clear hJ hsame AJ hcl hρ hsz hb
    go_simp
   ·refine(KP.out _).mono ?_
    rintro e w2 ⟨rfl,bb⟩
    exact⟨_,rfl,hJ.val hGS hcl hL rfl bb _ rfl⟩
  ·intro L a w' hL hsame hsz hJ AJ hcl
   refine BA hJ hGS hcl hL 1 (.pointer (some ⟨w.heap.size,0,none⟩)) (.pointer (some ⟨w.heap.size,12,none⟩)) (AY hsame (by kernel_rfl)) _ rfl rfl rfl rfl rfl fun ρ _ e0=>?_
   clear hJ hsame AJ hcl hsz
   go_simp
  ·intro L a w' hL hsame hsz hJ AJ hcl
   have q0:w'.cell? ⟨w.heap.size,12,none⟩=some (.int .u64 (tabs:Nat)):=(hJ.Ai (HK4.out) (by simp)).cell 12
   refine BA hJ hGS hcl hL 28 (.pointer (some ⟨w.heap.size,12,none⟩)) (.int .u64 (tabs:Nat)) (gslot hJ AJ 19 (by kernel_rfl) (by kernel_rfl) (by decide) rfl rfl) _ rfl rfl rfl rfl rfl fun ρ _ e0=>?_
   clear hJ hsame AJ hcl hsz
   go_simp
  ·intro L a w' hL hsame hsz hJ AJ hcl
   have hb:=hJ.kept.toBelow (Nat.le_refl _) (by simp)
   refine Step.val _ rfl rfl (AX rfl) (.agg #[.int .u8 66,.int .u8 66]) w' (fun ρ hρ=>?_) (hJ.val hGS hcl hL rfl (Below.refl _ _) _ rfl)
   have ec0:ρ (.const (.int .u8 66))=(.int .u8 66):=(hρ _).symm
   clear hJ hsame AJ hcl hρ hsz hb
   go_simp
  ·intro L a w' hL hsame hsz hJ AJ hcl
   have hb:=hJ.kept.toBelow (Nat.le_refl _) (by simp)
   have e0:a.eval (.tmp 9)=(.agg #[.int .i64 (G.rows:Nat),.int .i64 (G.AB:Nat),.slice A3 (G.rows*G.AB) c3]):=AV (j:=0) (by kernel_rfl) (hJ.valOf (by decide) (AZ AJ 0 (by kernel_rfl)) rfl rfl)
   have e1:a.eval (.tmp 15)=(.int .i64 (rr:Nat)):=AV (j:=6) (by kernel_rfl) (hJ.valOf (by decide) (AZ AJ 6 (by kernel_rfl)) rfl rfl)
   have e2:a.eval (.tmp 21)=(.int .i64 (rc:Nat)):=AV (j:=12) (by kernel_rfl) (hJ.valOf (by decide) (AZ AJ 12 (by kernel_rfl)) rfl rfl)
   have e3:a.eval (.tmp 24)=(.int .i64 (b:Nat)):=AV (j:=15) (by kernel_rfl) (hJ.valOf (by decide) (AZ AJ 15 (by kernel_rfl)) rfl rfl)
   have e4:a.eval (.tmp 27)=(.agg #[.int .i64 pa,.int .i64 pb,.int .i64 pf]):=AV (j:=18) (by kernel_rfl) (hJ.valOf (by decide) (AZ AJ 18 (by kernel_rfl)) rfl rfl)
   have e5:a.eval (.tmp 29)=(.int .u64 (tabs:Nat)):=AV (j:=20) (by kernel_rfl) (hJ.valOf (by decide) (AZ AJ 20 (by kernel_rfl)) rfl rfl)
   have e6:a.eval (.tmp 30)=(.agg #[.int .u8 66,.int .u8 66]):=AV (j:=21) (by kernel_rfl) (hJ.valOf (by decide) (AZ AJ 21 (by kernel_rfl)) rfl rfl)
   refine Step.val _ rfl rfl (AX rfl) (.agg (scA (.slice A3 (G.rows*G.AB) c3) ⟨G,rr,rc,false,0,b,(pa,pb,pf),tabs,66,66,0,false,false,false,false,false,⟨0,0,(0,0,0),0,0,0,false⟩⟩)) w' (fun ρ hρ=>?_) (hJ.val hGS hcl hL rfl (Below.refl _ _) _ rfl)
   rw [hρ] at e0 e1 e2 e3 e4 e5 e6
   clear hJ hsame AJ hcl hρ hsz hb
   go_simp
   rfl
  ·intro L a w' hL hsame hsz hJ AJ hcl
   have hb:=hJ.kept.toBelow (Nat.le_refl _) (by simp)
   refine Step.val _ rfl rfl (AX rfl) (.pointer (some ⟨w'.heap.size,0,none⟩)) (w'.alloc (.cells #[.int .i64 0,.int .i64 0,.slice none 0 0,.int .i64 0,.int .i64 0,.bool false,.int .i64 0,.int .i64 0,.int .i64 0,.int .i64 0,.int .i64 0,.int .u64 0,.int .u8 0,.int .u8 0,.int .i64 0,.bool false,.bool false,.bool false,.bool false,.bool false,.int .i64 0,.int .i64 0,.int .i64 0,.int .i64 0,.int .i64 0,.int .u8 0,.int .u8 0,.int .i64 0,.bool false] 43)) (fun ρ hρ=>?_) (hJ.box hGS hcl hL rfl 43 rfl #[.int .i64 0,.int .i64 0,.slice none 0 0,.int .i64 0,.int .i64 0,.bool false,.int .i64 0,.int .i64 0,.int .i64 0,.int .i64 0,.int .i64 0,.int .u64 0,.int .u8 0,.int .u8 0,.int .i64 0,.bool false,.bool false,.bool false,.bool false,.bool false,.int .i64 0,.int .i64 0,.int .i64 0,.int .i64 0,.int .i64 0,.int .u8 0,.int .u8 0,.int .i64 0,.bool false] rfl)
   clear hJ hsame AJ hcl hρ hsz hb
   go_simp
  ·intro L u w' hF hall
   change wpList _ _ _ _ (Act.put (Act.put (Act.put (Act.put (Act.put (Act.put (Act.put (Act.put (Act.put (Act.put (Act.put (Act.put (Act.put (Act.put (Act.put (Act.put (Act.put (Act.put (Act.put (Act.put (Act.put (Act.put (Act.put (Act.put (Act.put (BG _ u 0 _) (some 9) (u 0)) (some 10) (u 1)) (some 11) (u 2)) (some 12) (u 3)) (some 13) (u 4)) (some 14) (u 5)) (some 15) (u 6)) (some 16) (u 7)) (some 17) (u 8)) (some 18) (u 9)) (some 19) (u 10)) (some 20) (u 11)) (some 21) (u 12)) (some 22) (u 13)) (some 23) (u 14)) (some 24) (u 15)) (some 25) (u 16)) (some 26) (u 17)) (some 27) (u 18)) (some 28) (u 19)) (some 29) (u 20)) (some 30) (u 21)) (some 31) (u 22)) (some 4) (u 23)) none (u 24)) _
   simp only [BG]
   have f22:u 22=.agg (scA (.slice A3 (G.rows*G.AB) c3) ⟨G,rr,rc,false,0,b,(pa,pb,pf),tabs,66,66,0,false,false,false,false,false,⟨0,0,(0,0,0),0,0,0,false⟩⟩):=hF.valOf (j:=22) (by decide) (hall 22 (by decide)) rfl rfl
   obtain⟨gS,csS,hgS,hgS0,hbS,hsS⟩:=hF.YC (j:=23) (by decide) (hall 23 (by decide)) rfl
   have hk:=hF.kept.toBelow (Nat.le_refl _) (by simp)
   clear hF
   generalize u 0=z0
   generalize u 1=z1
   generalize u 2=z2
   generalize u 3=z3
   generalize u 4=z4
   generalize u 5=z5
   generalize u 6=z6
   generalize u 7=z7
   generalize u 8=z8
   generalize u 9=z9
   generalize u 10=z10
   generalize u 11=z11
   generalize u 12=z12
   generalize u 13=z13
   generalize u 14=z14
   generalize u 15=z15
   generalize u 16=z16
   generalize u 17=z17
   generalize u 18=z18
   generalize u 19=z19
   generalize u 20=z20
   generalize u 21=z21
   generalize u 22=z22 at f22⊢
   generalize u 23=z23 at hgS⊢
   generalize u 24=z24
   subst f22 hgS
   simp only [List.drop_succ_cons,List.drop_zero]
   refine AQ (x:=(.slice A3 (G.rows*G.AB) c3)) (s:=⟨G,rr,rc,false,0,b,(pa,pb,pf),tabs,66,66,0,false,false,false,false,false,⟨0,0,(0,0,0),0,0,0,false⟩⟩) hbS hsS rfl _ _ rfl (by go_simp) (by go_simp) rfl ?_
   intro w8 hB8 hk8 hs8
   change Exit.then _ _ Exit.normal _ _
   go_simp
   go_step
   go_meet
   exact⟨gS,rfl,hgS0,hB8,hk.trans (hk8.toBelow hk.size (fun k hh=>by simp at hh;omega))⟩
 case rest=>
  obtain⟨gS,rfl,hgS,hs5,hb5⟩:=hcut
  have HK5:=hide (HK4.out.below hb5 HK4.out.lt)
  have dJ:=hide (PO.out.below hb5 PO.out.lt)
  have HR5:=hide (HR4.out.below hb5 HR4.out.lt)
  have HW5:=hide (HW4.out.trans (hb5.mono HW4.out.size))
  have HG5:=hide (HG4.out.low hb5)
  have HS5:=hide hs5
  have hKS:w.heap.size≠gS:=by have:=HK4.out.lt;omega
  have hGS:gG≠gS:=by have:=PO.out.lt;omega
  have hRS:gR≠gS:=by have:=HR4.out.lt;omega
  have hwS:w.heap.size<=gS:=by have:=HK4.out.lt;omega
  have kG0:wc.cell? ⟨gG,0,none⟩=some (.int .i64 (G.rows:Nat)):=dJ.out.cell 0
  clear hs5 hb5 HK4 PO HR4 HW4 HG4
  go_upto_if 34 with fail
  generalize wc=w5 at*
  go_cut [] from 32 to 51 (fun wx=>Am wx gS (.slice A3 (G.rows*G.AB) c3) (((⟨G,rr,rc,false,0,b,(pa,pb,pf),tabs,66,66,0,false,false,false,false,false,⟨0,0,(0,0,0),0,0,0,false⟩⟩:SN.Sc).u6 tp).u7 bt)/\Kept [some gS] w5 wx)
  case first=>
   by_cases h1:1<G.rows
   ·have h1':(1:Int)<(G.rows:Int):=by omega
    obtain⟨WT,WB⟩:=HT.out.1 h1
    have hkt:w5.cell? ⟨w.heap.size,6,none⟩=some (.int .i64 kt):=HK5.out.cell 6
    have hkb:w5.cell? ⟨w.heap.size,7,none⟩=some (.int .i64 kb):=HK5.out.cell 7
    have k6:w5.cell? ⟨gS,6,none⟩=some (.int .i64 ((0:Nat):Int)):=HS5.out.c6
    have k7:w5.cell? ⟨gS,7,none⟩=some (.int .i64 (b:Nat)):=HS5.out.c7
    have z6:=HS5.out.fz 6
    have z7:=HS5.out.fz 7
    go_wp2_with fail
    refine(WT _).mono ?_
    rintro e w' ⟨rfl,rfl⟩
    go_upto_region 5 with fail
    have HS6:=hide (HS5.out.dA tp)
    have HK6:=hide (HK5.out.far (p:=⟨gS,6,none⟩) hKS (.int .i64 (tp:Nat)))
    have l6:=hide (dJ.out.far (p:=⟨gS,6,none⟩) hGS (.int .i64 (tp:Nat)))
    have hk6:=hide ((Kept.refl [some gS] w5).setCell (p:=⟨gS,6,none⟩) (From.mem (by simp)) (.int .i64 (tp:Nat)))
    generalize w5.setCell ⟨gS,6,none⟩ (.int .i64 (tp:Nat))=w6 at HS6 HK6 l6 hk6⊢
    clear hkt hkb k6 k7 z6 z7 kG0
    have hkb:w6.cell? ⟨w.heap.size,7,none⟩=some (.int .i64 kb):=HK6.out.cell 7
    have kG0:w6.cell? ⟨gG,0,none⟩=some (.int .i64 (G.rows:Nat)):=l6.out.cell 0
    have k6:w6.cell? ⟨gS,6,none⟩=some (.int .i64 (tp:Nat)):=HS6.out.c6
    have k7:w6.cell? ⟨gS,7,none⟩=some (.int .i64 (b:Nat)):=HS6.out.c7
    have z7:=HS6.out.fz 7
    go_wp2_with fail
    refine(WB _).mono ?_
    rintro e w' ⟨rfl,rfl⟩
    go_wp2_with fail
    go_meet
    exact⟨HS6.out.Gv bt,hk6.out.trans ((Kept.refl [some gS] w6).setCell (p:=⟨gS,7,none⟩) (From.mem (by simp)) (.int .i64 (bt:Nat))) (fun x hx=>From.mem hx)⟩
   ·have h1': ¬(1:Int)<(G.rows:Int):=by omega
    obtain⟨e1,e2⟩:=HT.out.2 h1
    go_wp2_with fail
    go_meet
    refine⟨?_,Kept.refl _ _⟩
    have h:=HS5.out
    rw [e1,e2]
    exact h
  case rest=>
   obtain⟨hs7,hk7⟩:=hcut
   have HK7:=hide (HK5.out.kept hk7 (by simp;exact hKS))
   have l7:=hide (dJ.out.kept hk7 (by simp;exact hGS))
   have HR7:=hide (HR5.out.kept hk7 (by simp;exact hRS))
   have HW7:=hide (HW5.out.trans (hk7.toBelow HW5.out.size (fun k hh=>by simp at hh;omega)))
   have HG7:=hide (HG5.out.kept HS5.out (by decide) hk7)
   have HS7:=hide hs7
   clear hs7 hk7 HK5 dJ HR5 HW5 HG5 HS5 kG0 HT
   generalize wc=w7 at*
   have hkf:w7.cell? ⟨w.heap.size,8,none⟩=some (.int .i64 kf):=HK7.out.cell 8
   have k15:=HS7.out.c15
   have k16:=HS7.out.c16
   have k17:=HS7.out.c17
   have k18:=HS7.out.c18
   have k19:=HS7.out.c19
   have z15:=HS7.out.fz 15
   have z16:=HS7.out.fz 16
   have z17:=HS7.out.fz 17
   have z18:=HS7.out.fz 18
   have z19:=HS7.out.fz 19
   go_upto_region 8 with fail
   simp only [HB0.out,HB1.out,HB2.out,HB3.out,HB4.out]
   have HS8:=hide (((((HS7.out.Yv f0).Yw f1).iH f2).iI f3).Yx f4)
   have hk8:=hide ((((((Kept.refl [some gS] w7).setCell (p:=⟨gS,15,none⟩) (From.mem (by simp)) (.bool f0)).setCell (p:=⟨gS,16,none⟩) (From.mem (by simp)) (.bool f1)).setCell (p:=⟨gS,17,none⟩) (From.mem (by simp)) (.bool f2)).setCell (p:=⟨gS,18,none⟩) (From.mem (by simp)) (.bool f3)).setCell (p:=⟨gS,19,none⟩) (From.mem (by simp)) (.bool f4))
   generalize (((((w7.setCell ⟨gS,15,none⟩ (.bool f0)).setCell ⟨gS,16,none⟩ (.bool f1)).setCell ⟨gS,17,none⟩ (.bool f2)).setCell ⟨gS,18,none⟩ (.bool f3)).setCell ⟨gS,19,none⟩ (.bool f4))=w8 at HS8 hk8⊢
   have HK8:=hide (HK7.out.kept hk8.out (by simp;exact hKS))
   have jH:=hide (l7.out.kept hk8.out (by simp;exact hGS))
   have HR8:=hide (HR7.out.kept hk8.out (by simp;exact hRS))
   have HW8:=hide (HW7.out.trans (hk8.out.toBelow HW7.out.size (fun k hh=>by simp at hh;omega)))
   have HG8:=hide (HG7.out.kept HS7.out (by decide) hk8.out)
   clear hkf k15 k16 k17 k18 k19 z15 z16 z17 z18 z19 hk8 HK7 l7 HR7 HW7 HG7 HS7
   go_cut [] from 54 to 89 (fun wx=>Am wx gS (.slice A3 (G.rows*G.AB) c3) (((((((((⟨G,rr,rc,false,0,b,(pa,pb,pf),tabs,66,66,0,false,false,false,false,false,⟨0,0,(0,0,0),0,0,0,false⟩⟩:SN.Sc).u6 tp).u7 bt).u15 f0).u16 f1).u17 f2).u18 f3).u19 f4).u5 (f0&&lc&&f5))/\Kept [some gS] w8 wx)
   case first=>
    have k15:w8.cell? ⟨gS,15,none⟩=some (.bool f0):=HS8.out.c15
    have k4:w8.cell? ⟨gS,4,none⟩=some (.int .i64 (rc:Nat)):=HS8.out.c4
    have k5:=HS8.out.c5
    have z5:=HS8.out.fz 5
    have kG1:w8.cell? ⟨gG,1,none⟩=some (.int .i64 (G.AB:Nat)):=jH.out.cell 1
    have FIN:=hide (HS8.out.Jy (f0&&lc&&f5))
    cases f0 with
    | false=>
     go_wp2_with fail
     go_meet
     exact⟨FIN.out,(Kept.refl [some gS] w8).setCell (p:=⟨gS,5,none⟩) (From.mem (by simp)) _⟩
    | true=>
     have hlc:=HLC.out
     cases lc with
     | false=>
      go_wp2_with fail
      go_meet
      exact⟨FIN.out,(Kept.refl [some gS] w8).setCell (p:=⟨gS,5,none⟩) (From.mem (by simp)) _⟩
     | true=>
      go_wp2_with fail
      simp only [HB5.out]
      go_meet
      exact⟨FIN.out,(Kept.refl [some gS] w8).setCell (p:=⟨gS,5,none⟩) (From.mem (by simp)) _⟩
   case rest=>
    obtain⟨hs9,hk9⟩:=hcut
    have HK9:=hide (HK8.out.kept hk9 (by simp;exact hKS))
    have l8:=hide (jH.out.kept hk9 (by simp;exact hGS))
    have HR9:=hide (HR8.out.kept hk9 (by simp;exact hRS))
    have HW9:=hide (HW8.out.trans (hk9.toBelow HW8.out.size (fun k hh=>by simp at hh;omega)))
    have HG9:=hide (HG8.out.kept HS8.out (by decide) hk9)
    have HS9:=hide hs9
    clear hs9 hk9 HK8 jH HR8 HW8 HG8 HS8
    generalize wc=w9 at*
    go_upto_if 92 with fail
    go_cut [] from 90 to 94 (fun wx=>Am wx gS (.slice A3 (G.rows*G.AB) c3) ((((((((((⟨G,rr,rc,false,0,b,(pa,pb,pf),tabs,66,66,0,false,false,false,false,false,⟨0,0,(0,0,0),0,0,0,false⟩⟩:SN.Sc).u6 tp).u7 bt).u15 f0).u16 f1).u17 f2).u18 f3).u19 f4).u5 (f0&&lc&&f5)).u12 (if f6=true then 48 else 66))/\Kept [some gS] w9 wx)
    case first=>
     have hb:=HB6.out
     have k12:=HS9.out.c12
     have z12:=HS9.out.fz 12
     cases f6 with
     | false=>
      go_wp2_with fail
      go_meet
      exact⟨HS9.out,Kept.refl _ _⟩
     | true=>
      go_wp2_with fail
      go_meet
      exact⟨HS9.out.VA 48,(Kept.refl [some gS] w9).setCell (p:=⟨gS,12,none⟩) (From.mem (by simp)) _⟩
    case rest=>
     obtain⟨hs10,hk10⟩:=hcut
     have l9:=hide (HK9.out.kept hk10 (by simp;exact hKS))
     have iJ:=hide (l8.out.kept hk10 (by simp;exact hGS))
     have Nh:=hide (HR9.out.kept hk10 (by simp;exact hRS))
     have Me:=hide (HW9.out.trans (hk10.toBelow HW9.out.size (fun k hh=>by simp at hh;omega)))
     have Qn:=hide (HG9.out.kept HS9.out (by decide) hk10)
     have WL:=hide hs10
     clear hs10 hk10 HK9 l8 HR9 HW9 HG9 HS9
     generalize wc=w10 at*
     go_upto_if 97 with fail
     go_cut [] from 95 to 98 (fun wx=>Am wx gS (.slice A3 (G.rows*G.AB) c3) (((((((((((⟨G,rr,rc,false,0,b,(pa,pb,pf),tabs,66,66,0,false,false,false,false,false,⟨0,0,(0,0,0),0,0,0,false⟩⟩:SN.Sc).u6 tp).u7 bt).u15 f0).u16 f1).u17 f2).u18 f3).u19 f4).u5 (f0&&lc&&f5)).u12 (if f6=true then 48 else 66)).u14 (if f7=true then 1 else 0))/\Kept [some gS] w10 wx)
     case first=>
      have hb:=HB7.out
      have k14:=WL.out.c14
      have z14:=WL.out.fz 14
      cases f7 with
      | false=>
       go_wp2_with fail
       go_meet
       exact⟨WL.out,Kept.refl _ _⟩
      | true=>
       go_wp2_with fail
       go_meet
       exact⟨WL.out.VB 1,(Kept.refl [some gS] w10).setCell (p:=⟨gS,14,none⟩) (From.mem (by simp)) _⟩
     case rest=>
      obtain⟨hs11,hk11⟩:=hcut
      have dK:=hide (l9.out.kept hk11 (by simp;exact hKS))
      have Y2:=hide (iJ.out.kept hk11 (by simp;exact hGS))
      have jI:=hide (Nh.out.kept hk11 (by simp;exact hRS))
      have jJ:=hide (Me.out.trans (hk11.toBelow Me.out.size (fun k hh=>by simp at hh;omega)))
      have mD:=hide (Qn.out.kept WL.out (by decide) hk11)
      have jK:=hide hs11
      clear hs11 hk11 l9 iJ Nh Me Qn WL
      generalize wc=w11 at*
      go_upto_region 13 with fail
      go_cut [] from 99 to 120 (fun wx=>Am wx gS (.slice A3 (G.rows*G.AB) c3) ((((((((((((⟨G,rr,rc,false,0,b,(pa,pb,pf),tabs,66,66,0,false,false,false,false,false,⟨0,0,(0,0,0),0,0,0,false⟩⟩:SN.Sc).u6 tp).u7 bt).u15 f0).u16 f1).u17 f2).u18 f3).u19 f4).u5 (f0&&lc&&f5)).u12 (if f6=true then 48 else 66)).u14 (if f7=true then 1 else 0)).uV ⟨vr,vc,(qa,qb,qf),66,48,0,f8⟩)/\Below w.heap.size w wx/\Box wx gR 43 csR/\IsG wx G (gv G.rows G.AB (.slice A3 (G.rows*G.AB) c3)))
      case first=>
       refine Bc (n:=122) 21 [] (fun _=> #[]) [(0,0,0,0,0),(0,0,0,0,0),(0,0,0,0,0),(0,0,0,0,0),(0,0,0,0,0),(0,0,0,0,0),(0,0,0,0,0),(0,0,0,0,0),(0,0,0,0,0),(0,0,0,0,0),(0,0,0,0,0),(0,0,0,0,0),(0,0,0,0,0),(0,0,0,0,0),(0,0,0,0,0),(0,0,0,0,0),(0,0,0,0,0),(0,0,0,0,0),(0,0,0,0,0),(0,0,0,0,0),(0,0,0,0,0),(0,0,0,0,0),(0,0,0,0,0)] (fun j=> [(.pointer (some ⟨w.heap.size,5,none⟩)),(.int .i64 kc),(.pointer (some ⟨gG,0,none⟩)),(.int .i64 (G.rows:Nat)),(.int .i64 (b:Nat)),(.int .i64 (vr:Nat)),(.pointer (some ⟨w.heap.size,4,none⟩)),(.int .i64 kr),(.pointer (some ⟨gG,1,none⟩)),(.int .i64 (G.AB:Nat)),(.int .i64 (d:Nat)),(.int .i64 (vc:Nat)),(.pointer (some ⟨w.heap.size,8,none⟩)),(.int .i64 kf),(.agg #[.int .i64 kf,.int .i64 0,.int .i64 0]),(.agg #[.int .i64 qa,.int .i64 qb,.int .i64 qf]),(.agg #[.int .u8 66,.int .u8 48]),(.int .i64 kf),(.int .i64 (bits .and .i64 kf 256)),(.bool f8),(.agg #[.int .i64 (vr:Nat),.int .i64 (vc:Nat),.int .i64 qa,.int .i64 qb,.int .i64 qf,.int .u8 66,.int .u8 48,.int .i64 0,.bool f8]),undef,undef].getD j undef) [] (fun _=>0) (by kernel_rfl) (by kernel_rfl) (by kernel_rfl) rfl (by kernel_rfl) (by kernel_rfl) (Dj rfl) (fun i j h=>by revert h;exact Dj (p:=fun _=>_) rfl i) (Ah.nil _) (fun hGS=>Ut ⟨?_,?_,?_,?_,?_,?_,?_,?_,?_,?_,?_,?_,?_,?_,?_,?_,?_,?_,?_,?_,?_⟩) ?_
       ·intro L a w' hL hsame hsz hJ AJ hcl
        refine BA hJ hGS hcl hL 1 (.pointer (some ⟨w.heap.size,0,none⟩)) (.pointer (some ⟨w.heap.size,5,none⟩)) (AY hsame (by kernel_rfl)) _ rfl rfl rfl rfl rfl fun ρ _ e0=>?_
        clear hJ hsame AJ hcl hsz
        go_simp
       ·intro L a w' hL hsame hsz hJ AJ hcl
        have q0:w'.cell? ⟨w.heap.size,5,none⟩=some (.int .i64 kc):=(hJ.Ai (dK.out) (by simp)).cell 5
        refine BA hJ hGS hcl hL 99 (.pointer (some ⟨w.heap.size,5,none⟩)) (.int .i64 kc) (gslot hJ AJ 0 (by kernel_rfl) (by kernel_rfl) (by decide) rfl rfl) _ rfl rfl rfl rfl rfl fun ρ _ e0=>?_
        clear hJ hsame AJ hcl hsz
        go_simp
       ·intro L a w' hL hsame hsz hJ AJ hcl
        refine BA hJ hGS hcl hL 3 (.pointer (some ⟨gG,0,none⟩)) (.pointer (some ⟨gG,0,none⟩)) (AY hsame (by kernel_rfl)) _ rfl rfl rfl rfl rfl fun ρ _ e0=>?_
        clear hJ hsame AJ hcl hsz
        go_simp
       ·intro L a w' hL hsame hsz hJ AJ hcl
        have q0:w'.cell? ⟨gG,0,none⟩=some (.int .i64 (G.rows:Nat)):=(hJ.Ai (Y2.out) (by simp)).cell 0
        refine BA hJ hGS hcl hL 101 (.pointer (some ⟨gG,0,none⟩)) (.int .i64 (G.rows:Nat)) (gslot hJ AJ 2 (by kernel_rfl) (by kernel_rfl) (by decide) rfl rfl) _ rfl rfl rfl rfl rfl fun ρ _ e0=>?_
        clear hJ hsame AJ hcl hsz
        go_simp
       ·intro L a w' hL hsame hsz hJ AJ hcl
        refine BA hJ hGS hcl hL 102 (.int .i64 (G.rows:Nat)) (.int .i64 (b:Nat)) (gslot hJ AJ 3 (by kernel_rfl) (by kernel_rfl) (by decide) rfl rfl) _ rfl rfl rfl rfl rfl fun ρ hc e0=>?_
        have ec0:=hc (.int .i64 1)
        clear hJ hsame AJ hcl hsz
        go_simp
        exact EBW.out
       ·intro L a w' hL hsame hsz hJ AJ hcl
        have hb:=hJ.kept.toBelow (Nat.le_refl _) (by simp)
        have e0:a.eval (.tmp 100)=(.int .i64 kc):=AV (j:=1) (by kernel_rfl) (hJ.valOf (by decide) (AZ AJ 1 (by kernel_rfl)) rfl rfl)
        have e2:a.eval (.tmp 103)=(.int .i64 (b:Nat)):=AV (j:=4) (by kernel_rfl) (hJ.valOf (by decide) (AZ AJ 4 (by kernel_rfl)) rfl rfl)
        refine Step.call _ rfl rfl (AX rfl) 20 #[.int .i64 kc,.int .i64 0,.int .i64 (b:Nat)] (fun ρ hρ=>?_) ?_
        ·skip
         rw [hρ] at e0 e2
         have ec0:ρ (.const (.int .i64 0))=(.int .i64 0):=(hρ _).symm
         have ef:ρ (.func 20)=.func (.func 20) #[] #[] :=(hρ _).symm
         clear hJ hsame AJ hcl hρ hsz hb
         go_simp
        ·refine(VR.out _).mono ?_
         rintro e w2 ⟨rfl,rfl⟩
         exact⟨_,rfl,hJ.val hGS hcl hL rfl (Below.refl _ _) _ rfl⟩
       ·intro L a w' hL hsame hsz hJ AJ hcl
        refine BA hJ hGS hcl hL 1 (.pointer (some ⟨w.heap.size,0,none⟩)) (.pointer (some ⟨w.heap.size,4,none⟩)) (AY hsame (by kernel_rfl)) _ rfl rfl rfl rfl rfl fun ρ _ e0=>?_
        clear hJ hsame AJ hcl hsz
        go_simp
       ·intro L a w' hL hsame hsz hJ AJ hcl
        have q0:w'.cell? ⟨w.heap.size,4,none⟩=some (.int .i64 kr):=(hJ.Ai (dK.out) (by simp)).cell 4
        refine BA hJ hGS hcl hL 105 (.pointer (some ⟨w.heap.size,4,none⟩)) (.int .i64 kr) (gslot hJ AJ 6 (by kernel_rfl) (by kernel_rfl) (by decide) rfl rfl) _ rfl rfl rfl rfl rfl fun ρ _ e0=>?_
        clear hJ hsame AJ hcl hsz
        go_simp
       ·intro L a w' hL hsame hsz hJ AJ hcl
        refine BA hJ hGS hcl hL 3 (.pointer (some ⟨gG,0,none⟩)) (.pointer (some ⟨gG,1,none⟩)) (AY hsame (by kernel_rfl)) _ rfl rfl rfl rfl rfl fun ρ _ e0=>?_
        clear hJ hsame AJ hcl hsz
        go_simp
       ·intro L a w' hL hsame hsz hJ AJ hcl
        have q0:w'.cell? ⟨gG,1,none⟩=some (.int .i64 (G.AB:Nat)):=(hJ.Ai (Y2.out) (by simp)).cell 1
        refine BA hJ hGS hcl hL 107 (.pointer (some ⟨gG,1,none⟩)) (.int .i64 (G.AB:Nat)) (gslot hJ AJ 8 (by kernel_rfl) (by kernel_rfl) (by decide) rfl rfl) _ rfl rfl rfl rfl rfl fun ρ _ e0=>?_
        clear hJ hsame AJ hcl hsz
        go_simp
       ·intro L a w' hL hsame hsz hJ AJ hcl
        refine BA hJ hGS hcl hL 108 (.int .i64 (G.AB:Nat)) (.int .i64 (d:Nat)) (gslot hJ AJ 9 (by kernel_rfl) (by kernel_rfl) (by decide) rfl rfl) _ rfl rfl rfl rfl rfl fun ρ hc e0=>?_
        have ec0:=hc (.int .i64 1)
        clear hJ hsame AJ hcl hsz
        go_simp
        exact EDW.out
       ·intro L a w' hL hsame hsz hJ AJ hcl
        have hb:=hJ.kept.toBelow (Nat.le_refl _) (by simp)
        have e0:a.eval (.tmp 106)=(.int .i64 kr):=AV (j:=7) (by kernel_rfl) (hJ.valOf (by decide) (AZ AJ 7 (by kernel_rfl)) rfl rfl)
        have e2:a.eval (.tmp 109)=(.int .i64 (d:Nat)):=AV (j:=10) (by kernel_rfl) (hJ.valOf (by decide) (AZ AJ 10 (by kernel_rfl)) rfl rfl)
        refine Step.call _ rfl rfl (AX rfl) 20 #[.int .i64 kr,.int .i64 0,.int .i64 (d:Nat)] (fun ρ hρ=>?_) ?_
        ·skip
         rw [hρ] at e0 e2
         have ec0:ρ (.const (.int .i64 0))=(.int .i64 0):=(hρ _).symm
         have ef:ρ (.func 20)=.func (.func 20) #[] #[] :=(hρ _).symm
         clear hJ hsame AJ hcl hρ hsz hb
         go_simp
        ·refine(VC.out _).mono ?_
         rintro e w2 ⟨rfl,rfl⟩
         exact⟨_,rfl,hJ.val hGS hcl hL rfl (Below.refl _ _) _ rfl⟩
       ·intro L a w' hL hsame hsz hJ AJ hcl
        refine BA hJ hGS hcl hL 1 (.pointer (some ⟨w.heap.size,0,none⟩)) (.pointer (some ⟨w.heap.size,8,none⟩)) (AY hsame (by kernel_rfl)) _ rfl rfl rfl rfl rfl fun ρ _ e0=>?_
        clear hJ hsame AJ hcl hsz
        go_simp
       ·intro L a w' hL hsame hsz hJ AJ hcl
        have q0:w'.cell? ⟨w.heap.size,8,none⟩=some (.int .i64 kf):=(hJ.Ai (dK.out) (by simp)).cell 8
        refine BA hJ hGS hcl hL 111 (.pointer (some ⟨w.heap.size,8,none⟩)) (.int .i64 kf) (gslot hJ AJ 12 (by kernel_rfl) (by kernel_rfl) (by decide) rfl rfl) _ rfl rfl rfl rfl rfl fun ρ _ e0=>?_
        clear hJ hsame AJ hcl hsz
        go_simp
       ·intro L a w' hL hsame hsz hJ AJ hcl
        refine BA hJ hGS hcl hL 112 (.int .i64 kf) (.agg #[.int .i64 kf,.int .i64 0,.int .i64 0]) (gslot hJ AJ 13 (by kernel_rfl) (by kernel_rfl) (by decide) rfl rfl) _ rfl rfl rfl rfl rfl fun ρ _ e0=>?_
        clear hJ hsame AJ hcl hsz
        go_simp
       ·intro L a w' hL hsame hsz hJ AJ hcl
        have hb:=hJ.kept.toBelow (Nat.le_refl _) (by simp)
        have e0:a.eval (.tmp 113)=(.agg #[.int .i64 kf,.int .i64 0,.int .i64 0]):=AV (j:=14) (by kernel_rfl) (hJ.valOf (by decide) (AZ AJ 14 (by kernel_rfl)) rfl rfl)
        refine Step.call _ rfl rfl (AX rfl) 36 #[.agg #[.int .i64 kf,.int .i64 0,.int .i64 0]] (fun ρ hρ=>?_) ?_
        ·skip
         rw [hρ] at e0
         have ef:ρ (.func 36)=.func (.func 36) #[] #[] :=(hρ _).symm
         clear hJ hsame AJ hcl hρ hsz hb
         go_simp
        ·refine(KQ.out _).mono ?_
         rintro e w2 ⟨rfl,bb⟩
         exact⟨_,rfl,hJ.val hGS hcl hL rfl bb _ rfl⟩
       ·intro L a w' hL hsame hsz hJ AJ hcl
        have hb:=hJ.kept.toBelow (Nat.le_refl _) (by simp)
        refine Step.val _ rfl rfl (AX rfl) (.agg #[.int .u8 66,.int .u8 48]) w' (fun ρ hρ=>?_) (hJ.val hGS hcl hL rfl (Below.refl _ _) _ rfl)
        have ec0:ρ (.const (.int .u8 66))=(.int .u8 66):=(hρ _).symm
        have ec1:ρ (.const (.int .u8 48))=(.int .u8 48):=(hρ _).symm
        clear hJ hsame AJ hcl hρ hsz hb
        go_simp
       ·intro L a w' hL hsame hsz hJ AJ hcl
        refine BA hJ hGS hcl hL 5 (.int .i64 kf) (.int .i64 kf) (AY hsame (by kernel_rfl)) _ rfl rfl rfl rfl rfl fun ρ _ e0=>?_
        clear hJ hsame AJ hcl hsz
        go_simp
       ·intro L a w' hL hsame hsz hJ AJ hcl
        refine BA hJ hGS hcl hL 116 (.int .i64 kf) (.int .i64 (bits .and .i64 kf 256)) (gslot hJ AJ 17 (by kernel_rfl) (by kernel_rfl) (by decide) rfl rfl) _ rfl rfl rfl rfl rfl fun ρ hc e0=>?_
        have ec0:=hc (.int .i64 256)
        clear hJ hsame AJ hcl hsz
        go_simp
       ·intro L a w' hL hsame hsz hJ AJ hcl
        refine BA hJ hGS hcl hL 117 (.int .i64 (bits .and .i64 kf 256)) (.bool f8) (gslot hJ AJ 18 (by kernel_rfl) (by kernel_rfl) (by decide) rfl rfl) _ rfl rfl rfl rfl rfl fun ρ hc e0=>?_
        have ec0:=hc (.int .i64 256)
        clear hJ hsame AJ hcl hsz
        go_simp
        exact HB8.out
       ·intro L a w' hL hsame hsz hJ AJ hcl
        have hb:=hJ.kept.toBelow (Nat.le_refl _) (by simp)
        have e0:a.eval (.tmp 104)=(.int .i64 (vr:Nat)):=AV (j:=5) (by kernel_rfl) (hJ.valOf (by decide) (AZ AJ 5 (by kernel_rfl)) rfl rfl)
        have e1:a.eval (.tmp 110)=(.int .i64 (vc:Nat)):=AV (j:=11) (by kernel_rfl) (hJ.valOf (by decide) (AZ AJ 11 (by kernel_rfl)) rfl rfl)
        have e2:a.eval (.tmp 114)=(.agg #[.int .i64 qa,.int .i64 qb,.int .i64 qf]):=AV (j:=15) (by kernel_rfl) (hJ.valOf (by decide) (AZ AJ 15 (by kernel_rfl)) rfl rfl)
        have e3:a.eval (.tmp 115)=(.agg #[.int .u8 66,.int .u8 48]):=AV (j:=16) (by kernel_rfl) (hJ.valOf (by decide) (AZ AJ 16 (by kernel_rfl)) rfl rfl)
        have e4:a.eval (.tmp 118)=(.bool f8):=AV (j:=19) (by kernel_rfl) (hJ.valOf (by decide) (AZ AJ 19 (by kernel_rfl)) rfl rfl)
        refine Step.val _ rfl rfl (AX rfl) (.agg #[.int .i64 (vr:Nat),.int .i64 (vc:Nat),.int .i64 qa,.int .i64 qb,.int .i64 qf,.int .u8 66,.int .u8 48,.int .i64 0,.bool f8]) w' (fun ρ hρ=>?_) (hJ.val hGS hcl hL rfl (Below.refl _ _) _ rfl)
        rw [hρ] at e0 e1 e2 e3 e4
        clear hJ hsame AJ hcl hρ hsz hb
        go_simp
       ·intro L u w' hF hall
        change wpList _ _ _ _ (Act.put (Act.put (Act.put (Act.put (Act.put (Act.put (Act.put (Act.put (Act.put (Act.put (Act.put (Act.put (Act.put (Act.put (Act.put (Act.put (Act.put (Act.put (Act.put (Act.put (Act.put (Act.put (Act.put (BG _ u 0 _) (some 99) (u 0)) (some 100) (u 1)) (some 101) (u 2)) (some 102) (u 3)) (some 103) (u 4)) (some 104) (u 5)) (some 105) (u 6)) (some 106) (u 7)) (some 107) (u 8)) (some 108) (u 9)) (some 109) (u 10)) (some 110) (u 11)) (some 111) (u 12)) (some 112) (u 13)) (some 113) (u 14)) (some 114) (u 15)) (some 115) (u 16)) (some 116) (u 17)) (some 117) (u 18)) (some 118) (u 19)) (some 119) (u 20)) (some 120) (u 21)) none (u 22)) _
        simp only [BG]
        have f20:u 20=(.agg #[.int .i64 (vr:Nat),.int .i64 (vc:Nat),.int .i64 qa,.int .i64 qb,.int .i64 qf,.int .u8 66,.int .u8 48,.int .i64 0,.bool f8]):=hF.valOf (j:=20) (by decide) (hall 20 (by decide)) rfl rfl
        have hk:=hF.kept.toBelow (Nat.le_refl _) (by simp)
        clear hF
        generalize u 0=z0
        generalize u 1=z1
        generalize u 2=z2
        generalize u 3=z3
        generalize u 4=z4
        generalize u 5=z5
        generalize u 6=z6
        generalize u 7=z7
        generalize u 8=z8
        generalize u 9=z9
        generalize u 10=z10
        generalize u 11=z11
        generalize u 12=z12
        generalize u 13=z13
        generalize u 14=z14
        generalize u 15=z15
        generalize u 16=z16
        generalize u 17=z17
        generalize u 18=z18
        generalize u 19=z19
        generalize u 20=z20 at f20⊢
        generalize u 21=z21
        generalize u 22=z22
        subst f20
        simp only [List.drop_succ_cons,List.drop_zero]
        refine LD rfl (.pointer (some ⟨gS,20,none⟩)) (by go_simp) ?_
        have hs12:=jK.out.below hk jK.out.lt
        refine IQ hs12 ⟨vr,vc,(qa,qb,qf),66,48,0,f8⟩ rfl _ _ rfl (by go_simp) (by go_simp) ?_
        intro w8 hB8 hk8 hs8
        change Exit.then _ _ Exit.normal _ _
        go_simp
        go_step
        go_meet
        have hw12:=jJ.out.trans (hk.mono jJ.out.size)
        exact⟨hB8,hw12.trans (hk8.toBelow hw12.size (fun k hh=>by simp at hh;omega)),(jI.out.below hk jI.out.lt).kept hk8 (by simp;exact hRS),(mD.out.low hk).kept hs12 (by decide) hk8⟩
      case rest=>
       obtain⟨hs14,hb14,hr14,hg14⟩:=hcut
       rw [HFT.out] at hs14
       have HS14:=hide hs14
       have mE:=hide hr14
       have mF:=hide hb14
       have HG14:=hide hg14
       clear hs14 hr14 hb14 hg14 jK jI jJ mD dK Y2
       go_wp2_with (first | (refine AU HS14.out rfl _ rfl rfl ?_) | (refine AQ mE.out hsR rfl _ _ rfl rfl rfl rfl ?_;intro w15 hB15 hk15 hs15))
       refine bodyPost_ret (Cg rfl rfl hB15) rfl ⟨_,rfl,⟨_,rfl,?_⟩,mF.out.trans (hk15.toBelow mF.out.size (fun k hh=>by simp at hh;omega))⟩
       have h:=HG14.out.kept mE.out (by decide) hk15
       rw [<- HFT.out]
       exact h
end Go.Proofs.YtoaabebgmdbjeaaGreatDoor
namespace Go.Proofs.YtoaabebgmdbjeaaGreatDoor
open Go.RowKit
def SN.Ks.Fit (k:SN.Ks):Prop:=((-9223372036854775808<=k.row/\k.row<=9223372036854775807)/\(-9223372036854775808<=k.col/\k.col<=9223372036854775807)/\(-9223372036854775808<=k.top/\k.top<=9223372036854775807)/\(-9223372036854775808<=k.bot/\k.bot<=9223372036854775807))/\
 ((-9223372036854775808<=k.fl/\k.fl<=9223372036854775807)/\(-9223372036854775808<=k.p0/\k.p0<=9223372036854775807)/\(-9223372036854775808<=k.p1/\k.p1<=9223372036854775807)/\(-9223372036854775808<=k.p2/\k.p2<=9223372036854775807))
theorem Mf (K0 K1 K2 K3:Value) (k:SN.Ks) (G:PG.Gr) (w:World) (hG:PG.BL G) (hk:k.Fit)
  (KG:Hid (∀w',Below w.heap.size w w'->Calls Tryz.prog 35 #[.agg #[K0,K1,K2,K3]] w' (DN w' G))):
  Calls Tryz.prog 11 #[.agg #[K0,K1,K2,K3,.int .i64 k.row,.int .i64 k.col,.int .i64 k.top,.int .i64 k.bot,.int .i64 k.fl,.int .i64 k.p0,.int .i64 k.p1,.int .i64 k.p2,.int .u64 k.tabs]] w (Az w (SN.Qc G k)):=by
 obtain⟨⟨⟨r0,r1⟩,⟨c0,c1⟩,⟨t0,t1⟩,⟨b0,b1⟩⟩,⟨⟨f0,f1⟩,⟨p0,p0'⟩,⟨p1,p1'⟩,⟨p2,p2'⟩⟩⟩:=hk
 have hR1:=hG.1
 have hR2:=hG.2.1
 have hK1:=hG.2.2.1
 have hK2:=hG.2.2.2.1
 have mr0:=Int.emod_nonneg k.row (b:=(G.rows:Int)) (by omega)
 have mr1:=Int.emod_lt_of_pos k.row (b:=(G.rows:Int)) (by omega)
 have mc0:=Int.emod_nonneg k.col (b:=(G.AB:Int)) (by omega)
 have mc1:=Int.emod_lt_of_pos k.col (b:=(G.AB:Int)) (by omega)
 have nr0:=Int.emod_nonneg k.col (b:=(G.rows:Int)) (by omega)
 have nr1:=Int.emod_lt_of_pos k.col (b:=(G.rows:Int)) (by omega)
 have nc0:=Int.emod_nonneg k.row (b:=(G.AB:Int)) (by omega)
 have nc1:=Int.emod_lt_of_pos k.row (b:=(G.AB:Int)) (by omega)
 have hbt:SN.Hf G.rows k.top k.bot<G.rows:=by
  by_cases h1:1<G.rows
  ·exact(SN.Si h1 _ _).2
  ·have e:SN.Hf G.rows k.top k.bot=G.rows-1:=if_neg h1
   omega
 have htp:SN.EL G.rows k.top<=1000:=by
  by_cases h1:1<G.rows
  ·have:=(SN.O7 h1 k.top).1
   omega
  ·have e:SN.EL G.rows k.top=0:=if_neg h1
   omega
 have sR:((G.rows-1:Nat):Int)-0+1=(G.rows:Int):=by omega
 have sK:((G.AB-1:Nat):Int)-0+1=(G.AB:Int):=by omega
 refine PN k.row k.col k.top k.bot k.fl k.p0 k.p1 k.p2 (C.EH k.p0) (C.EH k.p1) (k.p2%256) (C.EH k.fl) (C.EH 0) 0 (k.row%(G.rows:Int)).toNat (k.col%(G.AB:Int)).toNat (G.rows-1) (G.AB-1) (SN.EL G.rows k.top) (SN.Hf G.rows k.top k.bot) (k.col%(G.rows:Int)).toNat (k.row%(G.AB:Int)).toNat
  (SN.fl k.fl 8) (!SN.fl k.fl 0) (SN.fl k.fl 1) (!SN.fl k.fl 2) (SN.fl k.fl 3) (SN.fl k.fl 4) (SN.fl k.fl 5) (SN.fl k.fl 6) (SN.fl k.fl 7) (decide ((k.col%(G.AB:Int)).toNat+1=G.AB)) K0 K1 K2 K3 k.tabs G (SN.Qc G k) w hG hR2 hK2 hR1 hK1 htp (by omega) (by omega) (by omega)
  (hide (YO k.fl 0 1 _ (by decide) rfl (by simp))) (hide (MI k.fl 1 2 _ (by decide) rfl rfl)) (hide (YO k.fl 2 4 _ (by decide) rfl (by simp))) (hide (MI k.fl 3 8 _ (by decide) rfl rfl)) (hide (MI k.fl 4 16 _ (by decide) rfl rfl)) (hide (MI k.fl 5 32 _ (by decide) rfl rfl)) (hide (MI k.fl 6 64 _ (by decide) rfl rfl)) (hide (MI k.fl 7 128 _ (by decide) rfl rfl))
  (hide (MI k.fl 8 256 _ (by decide) rfl rfl)) (hide ?_) (hide ?_) (hide (by omega)) (hide (by omega)) (hide ?_) (hide ?_) (hide ⟨fun h1=>⟨fun w'=>?_,fun w'=>?_⟩,fun h1=>⟨if_neg h1,if_neg h1⟩⟩)
  (hide fun w'=>BN k.row 0 _ _ ?_ w' r0 r1 (by omega) (by omega) (by omega)) (hide fun w'=>BN k.col 0 _ _ ?_ w' c0 c1 (by omega) (by omega) (by omega))
  (hide fun w'=>BN k.col 0 _ _ ?_ w' c0 c1 (by omega) (by omega) (by omega)) (hide fun w'=>BN k.row 0 _ _ ?_ w' r0 r1 (by omega) (by omega) (by omega))
  (hide fun w'=>?_) (hide fun w'=>Ik k.p0 k.p1 k.p2 w' p0 p0' p1 p1' p2 p2') KG
 ·unfold SN.Qc
  simp only [SN.Sc.u6,SN.Sc.u7,SN.Sc.u15,SN.Sc.u16,SN.Sc.u17,SN.Sc.u18,SN.Sc.u19,SN.Sc.u5,SN.Sc.u12,SN.Sc.u14,SN.Sc.uV]
 ·by_cases e:(k.col%(G.AB:Int)).toNat+1=G.AB
  ·rw [decide_eq_true e]
   simp
   omega
  ·rw [decide_eq_false e]
   simp
   omega
 ·rw [IntWalk.i64_in _ (by omega)]
  omega
 ·rw [IntWalk.i64_in _ (by omega)]
  omega
 ·obtain⟨h2,h3⟩:=SN.O7 h1 k.top
  have m0:=Int.emod_nonneg k.top (b:=(G.rows:Int)-1) (by omega)
  have e:(G.rows:Int)-2-0+1=(G.rows:Int)-1:=by omega
  refine BN k.top 0 _ _ ?_ w' t0 t1 (by omega) (by omega) (by omega)
  rw [e,h3]
  omega
 ·have h2:=(SN.O7 h1 k.top).1
  have e0:SN.Hf G.rows k.top k.bot=SN.EL G.rows k.top+1+(k.bot%((G.rows:Int)-1-SN.EL G.rows k.top)).toNat:=if_pos h1
  have m0:=Int.emod_nonneg k.bot (b:=(G.rows:Int)-1-SN.EL G.rows k.top) (by omega)
  have e:(G.rows:Int)-1-((SN.EL G.rows k.top:Int)+1)+1=(G.rows:Int)-1-SN.EL G.rows k.top:=by omega
  refine BN k.bot _ _ _ ?_ w' b0 b1 (by omega) (by omega) (by omega)
  rw [e,e0]
  omega
 ·rw [sR];omega
 ·rw [sK];omega
 ·rw [sR];omega
 ·rw [sK];omega
 ·have h:=Ik k.fl 0 0 w' f0 f1 (by omega) (by omega) (by omega) (by omega)
  exact h
end Go.Proofs.YtoaabebgmdbjeaaGreatDoor
namespace Go.Proofs.YtoaabebgmdbjeaaGreatDoor
open Go.RowKit
def mG (rw cl:Int) (Ap:Option Addr) (np cp:Nat) (At:Option Addr) (nt ct:Nat) (a b c d e p q r u:Int):Array Value:= #[.int .i64 rw,.int .i64 cl,.slice Ap np cp,.slice At nt ct,.int .i64 a,.int .i64 b,.int .i64 c,.int .i64 d,.int .i64 e,.int .i64 p,.int .i64 q,.int .i64 r,.int .u64 u]
theorem TI (rw cl:Int) (Ap:Option Addr) (np cp:Nat) (lp:List Int) (At:Option Addr) (nt ct:Nat) (lt:List Int) (a b c d e p q r u:Int) (w:World)
  (hr:(Lit.int .i64 rw).wf=true) (hc:(Lit.int .i64 cl).wf=true) (hp:Arg .i64 w Ap np cp lp) (ht:Arg .i64 w At nt ct lt) (ha:(Lit.int .i64 a).wf=true) (hb:(Lit.int .i64 b).wf=true) (hc':(Lit.int .i64 c).wf=true) (hd:(Lit.int .i64 d).wf=true) (he:(Lit.int .i64 e).wf=true)
  (hp0:(Lit.int .i64 p).wf=true) (hp1:(Lit.int .i64 q).wf=true) (hp2:(Lit.int .i64 r).wf=true) (hu:(Lit.int .u64 u).wf=true):
  ∃S:SN.Sc,SN.Ad S/\S.g.rows<=5/\S.g.AB<=9/\Hid (∀w',Below w.heap.size w w'->Calls Tryz.prog 11 #[.agg (mG rw cl Ap np cp At nt ct a b c d e p q r u)] w' (Az w' S)):=by
 obtain⟨R,hR⟩: ∃R:Nat,1+rw%(5-1+1)=(R:Int):=⟨(1+rw%5).toNat,by omega⟩
 obtain⟨K,hK⟩: ∃K:Nat,1+cl%(9-1+1)=(K:Int):=⟨(1+cl%9).toNat,by omega⟩
 have hG:=Qj lp lt (R:=R) (K:=K) (by omega) (by omega) (by omega) (by omega)
 obtain⟨n,rfl⟩: ∃n:Nat,u=(n:Int):=⟨u.toNat,by have:=bounds_u64 hu;omega⟩
 have hn:TB.Ok n:=by have:=bounds_u64 hu;unfold TB.Ok;omega
 refine⟨SN.Qc (PG.ofL R K (PG.Df lp lt R K)) ⟨a,b,c,d,e,p,q,r,n⟩,SN.Sj hG _ hn,?_,?_,hide fun w' hw=>?_⟩
 ·show R<=5
  omega
 ·show K<=9
  omega
 ·exact Mf _ _ _ _ ⟨a,b,c,d,e,p,q,r,n⟩ _ w' hG ⟨⟨bounds_i64 ha,bounds_i64 hb,bounds_i64 hc',bounds_i64 hd⟩,⟨bounds_i64 he,bounds_i64 hp0,bounds_i64 hp1,bounds_i64 hp2⟩⟩
   (hide fun w'' hw''=>TF rw cl R K np cp nt ct lp lt Ap At w w'' (hw.trans (hw''.mono hw.size)) hR hK (bounds_i64 hr) (bounds_i64 hc) hp ht)
end Go.Proofs.YtoaabebgmdbjeaaGreatDoor
namespace Go.Proofs.YtoaabebgmdbjeaaGreatDoor
open Go.RowKit
theorem mH:Tryz.prog.globalNamed "math/bits.deBruijn64tab" =some 4:=by kernel_rfl
theorem mI:(Tryz.prog.globals[4]?).map (·.type)=some 192:=by kernel_rfl
theorem WM:tiled Tryz.prog 4 192=true:=by kernel_rfl
theorem Y3:flat (H:=Unit) Rows.laid_math_bits_deBruijn64tab=some (Lib.deBruijn64tab.map fun z:Nat=>Value.int .u8 (z:Int)):=by kernel_rfl
theorem WO {w:World} {l:List (String × DataW Unit)} (h:laidMet Tryz.prog l w) (hm:("math/bits.deBruijn64tab",Rows.laid_math_bits_deBruijn64tab)∈l):KH w:=by
 have hl:(Lib.deBruijn64tab.map fun z:Nat=>Value.int .u8 (z:Int)).length=64:=by kernel_rfl
 obtain⟨t,ht⟩:=DV 4 mH mI WM Y3 (by rw [hl];omega) h hm
 intro j hj
 rw [cell_of_row w _ j _ t (0,0) ht,List.getElem?_toArray,List.getElem?_map,List.getD_eq_getElem?_getD,List.getElem?_eq_getElem hj]
 rfl
end Go.Proofs.YtoaabebgmdbjeaaGreatDoor
