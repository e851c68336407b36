/- A part of the proof: ScreenSame1, SeqRef. -/
import Derived.Test.YtoaabebgmdbjeaaGreatDoorSb15
import Derived.Test.YtoaabebgmdbjeaaGreatDoorSb09
set_option maxRecDepth 100000
set_option maxHeartbeats 16000000
set_option linter.unusedVariables false
namespace Go.Proofs.YtoaabebgmdbjeaaGreatDoor
open Go.RowKit
theorem Xj (p:SN.Rw) (x y:Value) (w:World) (h:IsG w p.g (gv p.g.rows p.g.AB x)) (h':IsG w p.g (gv p.g.rows p.g.AB y)):
  Calls Tryz.prog 57 #[.agg (rwA x p),.agg (rwA y p)] w fun e w'=>e=.returned (.bool true)/\Below w.heap.size w w':=by
 obtain⟨A,cp,rfl⟩:=Ad h
 obtain⟨A',cq,rfl⟩:=Ad h'
 have GS:=hide (fun w' (hw:Below w.heap.size w w')=>(show Calls Tryz.prog 99 #[.agg #[.int .i64 p.g.rows,.int .i64 p.g.AB,.slice A (p.g.rows*p.g.AB) cp],.agg #[.int .i64 p.g.rows,.int .i64 p.g.AB,.slice A' (p.g.rows*p.g.AB) cq]] w' _ from Ym true (h.low hw) (h'.low hw) ⟨fun _=>PG.Alike.refl _,fun _=>rfl⟩))
 clear h h'
 go_enter Tryz.func57,Tryz.ntmps57
 go_upto_region 1 with (first | (refine BU rfl (.tmp 0) rfl rfl ?_;intro gp w1 hP1 hb1 hg1) | (refine BU rfl (.tmp 1) rfl rfl ?_;intro gq w2 hQ hb2 hg2))
 have hP:=hP1.below hb2 hP1.lt
 have hw:=hb1.trans (hb2.mono hb1.size)
 clear hP1 hb1 hb2
 have gp0:w2.cell? ⟨gp,0,none⟩=some (.int .i64 p.g.rows):=hP.c0
 have gp1:w2.cell? ⟨gp,1,none⟩=some (.int .i64 p.g.AB):=hP.c1
 have gp2:w2.cell? ⟨gp,2,none⟩=some ((.slice A (p.g.rows*p.g.AB) cp)):=hP.c2
 have gq0:w2.cell? ⟨gq,0,none⟩=some (.int .i64 p.g.rows):=hQ.c0
 have gq1:w2.cell? ⟨gq,1,none⟩=some (.int .i64 p.g.AB):=hQ.c1
 have gq2:w2.cell? ⟨gq,2,none⟩=some ((.slice A' (p.g.rows*p.g.AB) cq)):=hQ.c2
 go_wp2_with fail
 refine(GS.out _ hw).mono ?_
 rintro e w3 ⟨rfl,b3⟩
 have hP3:=hP.below b3 hP.lt
 have hQ3:=hQ.below b3 hQ.lt
 have hw3:=hw.trans (b3.mono hw.size)
 clear b3 hP hQ hw GS gp0 gp1 gp2 gq0 gq1 gq2
 have gp3:w3.cell? ⟨gp,3,none⟩=some (.int .i64 p.row):=hP3.c3
 have gp4:w3.cell? ⟨gp,4,none⟩=some (.int .i64 p.col):=hP3.c4
 have gp17:w3.cell? ⟨gp,17,none⟩=some (.bool p.shown):=hP3.c17
 have gq3:w3.cell? ⟨gq,3,none⟩=some (.int .i64 p.row):=hQ3.c3
 have gq4:w3.cell? ⟨gq,4,none⟩=some (.int .i64 p.col):=hQ3.c4
 have gq17:w3.cell? ⟨gq,17,none⟩=some (.bool p.shown):=hQ3.c17
 go_wp2_with fail
 go_ret
 exact⟨by simp,hw3⟩
theorem aR (p:SN.Rw) (x y:Value) (w:World) (h:IsG w p.g (gv p.g.rows p.g.AB x)) (h':IsG w p.g (gv p.g.rows p.g.AB y)):
  Calls Tryz.prog 23 #[.agg (rwA x p),.agg (rwA y p)] w fun e w'=>e=.returned (.bool true)/\Below w.heap.size w w':=by
 obtain⟨A,cp,rfl⟩:=Ad h
 obtain⟨A',cq,rfl⟩:=Ad h'
 have LK:=hide (fun w' (hw:Below w.heap.size w w')=>Xj p (.slice A (p.g.rows*p.g.AB) cp) (.slice A' (p.g.rows*p.g.AB) cq) w' (h.low hw) (h'.low hw))
 have CP:=hide (fun w'=>KU p (.slice A (p.g.rows*p.g.AB) cp) w')
 have CQ:=hide (fun w'=>KU p (.slice A' (p.g.rows*p.g.AB) cq) w')
 clear h h'
 have ECU: ∀w',(binOp .eql 41 (.agg #[.int .i64 p.row,.int .i64 p.col,.int .i64 p.pen.1,.int .i64 p.pen.2.1,.int .i64 p.pen.2.2,.int .u8 p.s0,.int .u8 p.s1,.int .i64 p.sh,.bool p.org]) (.agg #[.int .i64 p.row,.int .i64 p.col,.int .i64 p.pen.1,.int .i64 p.pen.2.1,.int .i64 p.pen.2.2,.int .u8 p.s0,.int .u8 p.s1,.int .i64 p.sh,.bool p.org])).run Tryz.prog w'=.ok (.bool true) w':=fun w'=>by rw [KT];simp
 have ESV: ∀w',(binOp .eql 41 (.agg #[.int .i64 p.Du,.int .i64 p.Dv,.int .i64 p.Ba.1,.int .i64 p.Ba.2.1,.int .i64 p.Ba.2.2,.int .u8 p.t0,.int .u8 p.t1,.int .i64 p.th,.bool p.so]) (.agg #[.int .i64 p.Du,.int .i64 p.Dv,.int .i64 p.Ba.1,.int .i64 p.Ba.2.1,.int .i64 p.Ba.2.2,.int .u8 p.t0,.int .u8 p.t1,.int .i64 p.th,.bool p.so])).run Tryz.prog w'=.ok (.bool true) w':=fun w'=>by rw [KT];simp
 have vg:=Kt
 go_enter Tryz.func23,Tryz.ntmps23
 go_upto_region 1 with (first | (refine BU rfl (.tmp 0) rfl rfl ?_;intro gp w1 hP1 hb1 hg1) | (refine BU rfl (.tmp 1) rfl rfl ?_;intro gq w2 hQ hb2 hg2;have HP:=hide (hP1.below hb2 hP1.lt);have HQ:=hide hQ;have HW:=hide (hb1.trans (hb2.mono hb1.size));clear hP1 hb1 hb2 hQ))
 have LK2:=hide (fun w' (hb:Below w2.heap.size w2 w')=>LK.out w' (HW.out.trans (hb.mono HW.out.size)))
 clear LK
 refine EI (n:=71) [] (fun _=> #[]) [(0,0,0,0,0),(0,0,0,0,0),(0,0,0,0,0),(0,0,0,0,0),(0,0,0,0,0),(0,0,0,0,0),(0,0,0,0,0),(0,0,0,0,0),(0,0,0,0,0),(0,0,0,0,0),(0,0,0,0,0),(0,0,0,0,0),(0,0,0,0,0),(0,0,0,0,0),(0,0,0,0,0),(0,0,0,0,0),(0,0,0,0,0),(0,0,0,0,0),(0,0,0,0,0),(0,0,0,0,0),(0,0,0,0,0),(0,0,0,0,0),(0,0,0,0,0),(0,0,0,0,0),(0,0,0,0,0),(0,0,0,0,0),(0,0,0,0,0),(0,0,0,0,0),(0,0,0,0,0),(0,0,0,0,0),(0,0,0,0,0),(0,0,0,0,0),(0,0,0,0,0),(0,0,0,0,0),(0,0,0,0,0),(0,0,0,0,0),(0,0,0,0,0),(0,0,0,0,0),(0,0,0,0,0),(0,0,0,0,0),(0,0,0,0,0),(0,0,0,0,0),(0,0,0,0,0),(0,0,0,0,0),(0,0,0,0,0),(0,0,0,0,0),(0,0,0,0,0),(0,0,0,0,0),(0,0,0,0,0),(0,0,0,0,0),(0,0,0,0,0),(0,0,0,0,0),(0,0,0,0,0),(0,0,0,0,0),(0,0,0,0,0),(0,0,0,0,0),(0,0,0,0,0),(0,0,0,0,0),(0,0,0,0,0),(0,0,0,0,0),(0,0,0,0,0),(0,0,0,0,0),(0,0,0,0,0),(0,0,0,0,0),(0,0,0,0,0),(0,0,0,0,0),(0,0,0,0,0)] (fun j=> [(.agg (rwA (.slice A (p.g.rows*p.g.AB) cp) p)),(.agg (rwA (.slice A' (p.g.rows*p.g.AB) cq) p)),(.bool true),(.bool true),(.agg (rwA (.slice A (p.g.rows*p.g.AB) cp) p)),(.agg #[.int .i64 p.row,.int .i64 p.col,.int .i64 p.pen.1,.int .i64 p.pen.2.1,.int .i64 p.pen.2.2,.int .u8 p.s0,.int .u8 p.s1,.int .i64 p.sh,.bool p.org]),(.agg (rwA (.slice A' (p.g.rows*p.g.AB) cq) p)),(.agg #[.int .i64 p.row,.int .i64 p.col,.int .i64 p.pen.1,.int .i64 p.pen.2.1,.int .i64 p.pen.2.2,.int .u8 p.s0,.int .u8 p.s1,.int .i64 p.sh,.bool p.org]),(.bool true),(.bool true),(.bool true),(.pointer (some ⟨gp,20,none⟩)),(.agg #[.int .i64 p.Du,.int .i64 p.Dv,.int .i64 p.Ba.1,.int .i64 p.Ba.2.1,.int .i64 p.Ba.2.2,.int .u8 p.t0,.int .u8 p.t1,.int .i64 p.th,.bool p.so]),(.pointer (some ⟨gq,20,none⟩)),(.agg #[.int .i64 p.Du,.int .i64 p.Dv,.int .i64 p.Ba.1,.int .i64 p.Ba.2.1,.int .i64 p.Ba.2.2,.int .u8 p.t0,.int .u8 p.t1,.int .i64 p.th,.bool p.so]),(.bool true),(.bool true),(.bool true),(.pointer (some ⟨gp,5,none⟩)),(.bool p.pend),(.pointer (some ⟨gq,5,none⟩)),(.bool p.pend),(.bool true),(.bool true),(.bool true),(.pointer (some ⟨gp,6,none⟩)),(.int .i64 p.top),(.pointer (some ⟨gq,6,none⟩)),(.int .i64 p.top),(.bool true),(.bool true),(.bool true),(.pointer (some ⟨gp,7,none⟩)),(.int .i64 p.bot),(.pointer (some ⟨gq,7,none⟩)),(.int .i64 p.bot),(.bool true),(.bool true),(.bool true),(.pointer (some ⟨gp,11,none⟩)),(.int .u64 p.tabs),(.pointer (some ⟨gq,11,none⟩)),(.int .u64 p.tabs),(.bool true),(.bool true),(.bool true),(.pointer (some ⟨gp,15,none⟩)),(.bool p.wrap),(.pointer (some ⟨gq,15,none⟩)),(.bool p.wrap),(.bool true),(.bool true),(.bool true),(.pointer (some ⟨gp,18,none⟩)),(.bool p.keys),(.pointer (some ⟨gq,18,none⟩)),(.bool p.keys),(.bool true),(.bool true),(.bool true),(.pointer (some ⟨gp,19,none⟩)),(.bool p.pad),(.pointer (some ⟨gq,19,none⟩)),(.bool p.pad),(.bool true),(.bool true),(.bool true)].getD j undef) [] (fun _=>0) (by kernel_rfl) (by kernel_rfl) (by kernel_rfl) rfl (by kernel_rfl) (Dt rfl) (fun i j h=>by revert h;exact Dt (p:=fun _=>_) rfl i) (Aj.nil _) (fun hGS=>fO ⟨?_,?_,?_,?_,?_,?_,?_,?_,?_,?_,?_,?_,?_,?_,?_,?_,?_,?_,?_,?_,?_,?_,?_,?_,?_,?_,?_,?_,?_,?_,?_,?_,?_,?_,?_,?_,?_,?_,?_,?_,?_,?_,?_,?_,?_,?_,?_,?_,?_,?_,?_,?_,?_,?_,?_,?_,?_,?_,?_,?_,?_,?_,?_,?_,?_,?_,?_⟩) ?_
 ·intro L a w' hL hsame hsz hJ AJ hcl
  have hb:=hJ.kept.toBelow (Nat.le_refl _) (by simp)
  have e0:a.eval (.tmp 2)=(.pointer (some ⟨gp,0,none⟩)):=AY hsame (by kernel_rfl)
  have hx:=hJ.Ah (HP.out) (by simp)
  exact Step.val _ rfl rfl (AV rfl) (.agg (rwA (.slice A (p.g.rows*p.g.AB) cp) p)) w' (fun ρ hρ=>Aq hx rfl ρ _ rfl ((hρ _).symm.trans e0)) (hJ.val hGS hcl hL rfl (Below.refl _ _) _ rfl)
 ·intro L a w' hL hsame hsz hJ AJ hcl
  have hb:=hJ.kept.toBelow (Nat.le_refl _) (by simp)
  have e0:a.eval (.tmp 3)=(.pointer (some ⟨gq,0,none⟩)):=AY hsame (by kernel_rfl)
  have hx:=hJ.Ah (HQ.out) (by simp)
  exact Step.val _ rfl rfl (AV rfl) (.agg (rwA (.slice A' (p.g.rows*p.g.AB) cq) p)) w' (fun ρ hρ=>Aq hx rfl ρ _ rfl ((hρ _).symm.trans e0)) (hJ.val hGS hcl hL rfl (Below.refl _ _) _ rfl)
 ·intro L a w' hL hsame hsz hJ AJ hcl
  have hb:=hJ.kept.toBelow (Nat.le_refl _) (by simp)
  have e0:a.eval (.tmp 5)=(.agg (rwA (.slice A (p.g.rows*p.g.AB) cp) p)):=AU (j:=0) (by kernel_rfl) (hJ.valOf (by decide) (AZ AJ 0 (by kernel_rfl)) rfl rfl)
  have e1:a.eval (.tmp 6)=(.agg (rwA (.slice A' (p.g.rows*p.g.AB) cq) p)):=AU (j:=1) (by kernel_rfl) (hJ.valOf (by decide) (AZ AJ 1 (by kernel_rfl)) rfl rfl)
  refine Step.call _ rfl rfl (AV rfl) 57 #[.agg (rwA (.slice A (p.g.rows*p.g.AB) cp) p),.agg (rwA (.slice A' (p.g.rows*p.g.AB) cq) p)] (fun ρ hρ=>?_) ?_
  ·skip
   rw [hρ] at e0 e1
   have ef:ρ (.func 57)=.func (.func 57) #[] #[] :=(hρ _).symm
   clear hJ hsame AJ hcl hρ hsz hb
   go_simp
  ·refine(LK2.out _ hb).mono ?_
   rintro e w2 ⟨rfl,bb⟩
   exact⟨_,rfl,hJ.val hGS hcl hL rfl bb _ rfl⟩
 ·intro L a w' hL hsame hsz hJ AJ hcl
  refine BG hJ hGS hcl hL 7 (.bool true) (.bool true) (gslot hJ AJ 2 (by kernel_rfl) (by kernel_rfl) (by decide) rfl rfl) _ rfl rfl rfl rfl rfl fun ρ _ e0=>?_
  clear hJ hsame AJ hcl hsz
  go_simp
 ·intro L a w' hL hsame hsz hJ AJ hcl
  have gd:valOf _ 3 a=.bool true:=hJ.valOf (by decide) (AZ AJ 3 (by kernel_rfl)) rfl rfl
  have hb:=hJ.kept.toBelow (Nat.le_refl _) (by simp)
  have e0:a.eval (.tmp 2)=(.pointer (some ⟨gp,0,none⟩)):=AY hsame (by kernel_rfl)
  have hx:=hJ.Ah (HP.out) (by simp)
  exact Step.val _ rfl rfl (BK (g:=3) (b:=true) rfl gd) (.agg (rwA (.slice A (p.g.rows*p.g.AB) cp) p)) w' (fun ρ hρ=>Aq hx rfl ρ _ rfl ((hρ _).symm.trans e0)) (hJ.val hGS hcl hL rfl (Below.refl _ _) _ rfl)
 ·intro L a w' hL hsame hsz hJ AJ hcl
  have gd:valOf _ 3 a=.bool true:=hJ.valOf (by decide) (AZ AJ 3 (by kernel_rfl)) rfl rfl
  have hb:=hJ.kept.toBelow (Nat.le_refl _) (by simp)
  have e0:a.eval (.tmp 9)=(.agg (rwA (.slice A (p.g.rows*p.g.AB) cp) p)):=AU (j:=4) (by kernel_rfl) (hJ.valOf (by decide) (AZ AJ 4 (by kernel_rfl)) rfl rfl)
  refine Step.call _ rfl rfl (BK (g:=3) (b:=true) rfl gd) 49 #[.agg (rwA (.slice A (p.g.rows*p.g.AB) cp) p)] (fun ρ hρ=>?_) ?_
  ·skip
   rw [hρ] at e0
   have ef:ρ (.func 49)=.func (.func 49) #[] #[] :=(hρ _).symm
   clear hJ hsame AJ hcl hρ hsz hb gd
   go_simp
  ·refine(CP.out _).mono ?_
   rintro e w2 ⟨rfl,bb⟩
   exact⟨_,rfl,hJ.val hGS hcl hL rfl bb _ rfl⟩
 ·intro L a w' hL hsame hsz hJ AJ hcl
  have gd:valOf _ 3 a=.bool true:=hJ.valOf (by decide) (AZ AJ 3 (by kernel_rfl)) rfl rfl
  have hb:=hJ.kept.toBelow (Nat.le_refl _) (by simp)
  have e0:a.eval (.tmp 3)=(.pointer (some ⟨gq,0,none⟩)):=AY hsame (by kernel_rfl)
  have hx:=hJ.Ah (HQ.out) (by simp)
  exact Step.val _ rfl rfl (BK (g:=3) (b:=true) rfl gd) (.agg (rwA (.slice A' (p.g.rows*p.g.AB) cq) p)) w' (fun ρ hρ=>Aq hx rfl ρ _ rfl ((hρ _).symm.trans e0)) (hJ.val hGS hcl hL rfl (Below.refl _ _) _ rfl)
 ·intro L a w' hL hsame hsz hJ AJ hcl
  have gd:valOf _ 3 a=.bool true:=hJ.valOf (by decide) (AZ AJ 3 (by kernel_rfl)) rfl rfl
  have hb:=hJ.kept.toBelow (Nat.le_refl _) (by simp)
  have e0:a.eval (.tmp 11)=(.agg (rwA (.slice A' (p.g.rows*p.g.AB) cq) p)):=AU (j:=6) (by kernel_rfl) (hJ.valOf (by decide) (AZ AJ 6 (by kernel_rfl)) rfl rfl)
  refine Step.call _ rfl rfl (BK (g:=3) (b:=true) rfl gd) 49 #[.agg (rwA (.slice A' (p.g.rows*p.g.AB) cq) p)] (fun ρ hρ=>?_) ?_
  ·skip
   rw [hρ] at e0
   have ef:ρ (.func 49)=.func (.func 49) #[] #[] :=(hρ _).symm
   clear hJ hsame AJ hcl hρ hsz hb gd
   go_simp
  ·refine(CQ.out _).mono ?_
   rintro e w2 ⟨rfl,bb⟩
   exact⟨_,rfl,hJ.val hGS hcl hL rfl bb _ rfl⟩
 ·intro L a w' hL hsame hsz hJ AJ hcl
  refine DX hJ hGS hcl hL AJ 10 12 (.agg #[.int .i64 p.row,.int .i64 p.col,.int .i64 p.pen.1,.int .i64 p.pen.2.1,.int .i64 p.pen.2.2,.int .u8 p.s0,.int .u8 p.s1,.int .i64 p.sh,.bool p.org]) (.agg #[.int .i64 p.row,.int .i64 p.col,.int .i64 p.pen.1,.int .i64 p.pen.2.1,.int .i64 p.pen.2.2,.int .u8 p.s0,.int .u8 p.s1,.int .i64 p.sh,.bool p.org]) (.bool true) (gslot hJ AJ 5 (by kernel_rfl) (by kernel_rfl) (by decide) rfl rfl) (gslot hJ AJ 7 (by kernel_rfl) (by kernel_rfl) (by decide) rfl rfl) _ rfl rfl _ rfl rfl rfl (by kernel_rfl) rfl rfl fun ρ e0 e1=>?_
  clear hJ hsame AJ hcl hsz
  go_simp
 ·intro L a w' hL hsame hsz hJ AJ hcl
  refine JD hJ hGS hcl hL 8 13 (.bool true) (.bool true) (.bool true) (gslot hJ AJ 3 (by kernel_rfl) (by kernel_rfl) (by decide) rfl rfl) (gslot hJ AJ 8 (by kernel_rfl) (by kernel_rfl) (by decide) rfl rfl) _ rfl rfl rfl rfl rfl fun ρ hc e0 e1=>?_
  have ec0:=hc (.bool false)
  clear hJ hsame AJ hcl hsz
  go_simp
 ·intro L a w' hL hsame hsz hJ AJ hcl
  refine BG hJ hGS hcl hL 14 (.bool true) (.bool true) (gslot hJ AJ 9 (by kernel_rfl) (by kernel_rfl) (by decide) rfl rfl) _ rfl rfl rfl rfl rfl fun ρ _ e0=>?_
  clear hJ hsame AJ hcl hsz
  go_simp
 ·intro L a w' hL hsame hsz hJ AJ hcl
  refine DX hJ hGS hcl hL AJ 2 2 (.pointer (some ⟨gp,0,none⟩)) _ (.pointer (some ⟨gp,20,none⟩)) (AY hsame (by kernel_rfl)) (AY hsame (by kernel_rfl)) _ rfl rfl _ rfl rfl rfl (by kernel_rfl) rfl rfl fun ρ e0 _=>?_
  clear hJ hsame AJ hcl hsz
  go_simp
 ·intro L a w' hL hsame hsz hJ AJ hcl
  have hx:=hJ.Ah (HP.out) (by simp)
  have q0:w'.cell? ⟨gp,20,none⟩=some (.int .i64 p.Du):=hx.cell 20
  have q1:w'.cell? ⟨gp,21,none⟩=some (.int .i64 p.Dv):=hx.cell 21
  have q2:w'.cell? ⟨gp,22,none⟩=some (.int .i64 p.Ba.1):=hx.cell 22
  have q3:w'.cell? ⟨gp,23,none⟩=some (.int .i64 p.Ba.2.1):=hx.cell 23
  have q4:w'.cell? ⟨gp,24,none⟩=some (.int .i64 p.Ba.2.2):=hx.cell 24
  have q5:w'.cell? ⟨gp,25,none⟩=some (.int .u8 p.t0):=hx.cell 25
  have q6:w'.cell? ⟨gp,26,none⟩=some (.int .u8 p.t1):=hx.cell 26
  have q7:w'.cell? ⟨gp,27,none⟩=some (.int .i64 p.th):=hx.cell 27
  have q8:w'.cell? ⟨gp,28,none⟩=some (.bool p.so):=hx.cell 28
  refine DX hJ hGS hcl hL AJ 16 16 (.pointer (some ⟨gp,20,none⟩)) _ (.agg #[.int .i64 p.Du,.int .i64 p.Dv,.int .i64 p.Ba.1,.int .i64 p.Ba.2.1,.int .i64 p.Ba.2.2,.int .u8 p.t0,.int .u8 p.t1,.int .i64 p.th,.bool p.so]) (gslot hJ AJ 11 (by kernel_rfl) (by kernel_rfl) (by decide) rfl rfl) (gslot hJ AJ 11 (by kernel_rfl) (by kernel_rfl) (by decide) rfl rfl) _ rfl rfl _ rfl rfl rfl (by kernel_rfl) rfl rfl fun ρ e0 _=>?_
  clear hJ hsame AJ hcl hsz hx
  go_simp
 ·intro L a w' hL hsame hsz hJ AJ hcl
  refine DX hJ hGS hcl hL AJ 3 3 (.pointer (some ⟨gq,0,none⟩)) _ (.pointer (some ⟨gq,20,none⟩)) (AY hsame (by kernel_rfl)) (AY hsame (by kernel_rfl)) _ rfl rfl _ rfl rfl rfl (by kernel_rfl) rfl rfl fun ρ e0 _=>?_
  clear hJ hsame AJ hcl hsz
  go_simp
 ·intro L a w' hL hsame hsz hJ AJ hcl
  have hx:=hJ.Ah (HQ.out) (by simp)
  have q0:w'.cell? ⟨gq,20,none⟩=some (.int .i64 p.Du):=hx.cell 20
  have q1:w'.cell? ⟨gq,21,none⟩=some (.int .i64 p.Dv):=hx.cell 21
  have q2:w'.cell? ⟨gq,22,none⟩=some (.int .i64 p.Ba.1):=hx.cell 22
  have q3:w'.cell? ⟨gq,23,none⟩=some (.int .i64 p.Ba.2.1):=hx.cell 23
  have q4:w'.cell? ⟨gq,24,none⟩=some (.int .i64 p.Ba.2.2):=hx.cell 24
  have q5:w'.cell? ⟨gq,25,none⟩=some (.int .u8 p.t0):=hx.cell 25
  have q6:w'.cell? ⟨gq,26,none⟩=some (.int .u8 p.t1):=hx.cell 26
  have q7:w'.cell? ⟨gq,27,none⟩=some (.int .i64 p.th):=hx.cell 27
  have q8:w'.cell? ⟨gq,28,none⟩=some (.bool p.so):=hx.cell 28
  refine DX hJ hGS hcl hL AJ 18 18 (.pointer (some ⟨gq,20,none⟩)) _ (.agg #[.int .i64 p.Du,.int .i64 p.Dv,.int .i64 p.Ba.1,.int .i64 p.Ba.2.1,.int .i64 p.Ba.2.2,.int .u8 p.t0,.int .u8 p.t1,.int .i64 p.th,.bool p.so]) (gslot hJ AJ 13 (by kernel_rfl) (by kernel_rfl) (by decide) rfl rfl) (gslot hJ AJ 13 (by kernel_rfl) (by kernel_rfl) (by decide) rfl rfl) _ rfl rfl _ rfl rfl rfl (by kernel_rfl) rfl rfl fun ρ e0 _=>?_
  clear hJ hsame AJ hcl hsz hx
  go_simp
 ·intro L a w' hL hsame hsz hJ AJ hcl
  refine DX hJ hGS hcl hL AJ 17 19 (.agg #[.int .i64 p.Du,.int .i64 p.Dv,.int .i64 p.Ba.1,.int .i64 p.Ba.2.1,.int .i64 p.Ba.2.2,.int .u8 p.t0,.int .u8 p.t1,.int .i64 p.th,.bool p.so]) (.agg #[.int .i64 p.Du,.int .i64 p.Dv,.int .i64 p.Ba.1,.int .i64 p.Ba.2.1,.int .i64 p.Ba.2.2,.int .u8 p.t0,.int .u8 p.t1,.int .i64 p.th,.bool p.so]) (.bool true) (gslot hJ AJ 12 (by kernel_rfl) (by kernel_rfl) (by decide) rfl rfl) (gslot hJ AJ 14 (by kernel_rfl) (by kernel_rfl) (by decide) rfl rfl) _ rfl rfl _ rfl rfl rfl (by kernel_rfl) rfl rfl fun ρ e0 e1=>?_
  clear hJ hsame AJ hcl hsz
  go_simp
 ·intro L a w' hL hsame hsz hJ AJ hcl
  refine JD hJ hGS hcl hL 15 20 (.bool true) (.bool true) (.bool true) (gslot hJ AJ 10 (by kernel_rfl) (by kernel_rfl) (by decide) rfl rfl) (gslot hJ AJ 15 (by kernel_rfl) (by kernel_rfl) (by decide) rfl rfl) _ rfl rfl rfl rfl rfl fun ρ hc e0 e1=>?_
  have ec0:=hc (.bool false)
  clear hJ hsame AJ hcl hsz
  go_simp
 ·intro L a w' hL hsame hsz hJ AJ hcl
  refine BG hJ hGS hcl hL 21 (.bool true) (.bool true) (gslot hJ AJ 16 (by kernel_rfl) (by kernel_rfl) (by decide) rfl rfl) _ rfl rfl rfl rfl rfl fun ρ _ e0=>?_
  clear hJ hsame AJ hcl hsz
  go_simp
 ·intro L a w' hL hsame hsz hJ AJ hcl
  refine DX hJ hGS hcl hL AJ 2 2 (.pointer (some ⟨gp,0,none⟩)) _ (.pointer (some ⟨gp,5,none⟩)) (AY hsame (by kernel_rfl)) (AY hsame (by kernel_rfl)) _ rfl rfl _ rfl rfl rfl (by kernel_rfl) rfl rfl fun ρ e0 _=>?_
  clear hJ hsame AJ hcl hsz
  go_simp
 ·intro L a w' hL hsame hsz hJ AJ hcl
  have q0:w'.cell? ⟨gp,5,none⟩=some (.bool p.pend):=(hJ.Ah (HP.out) (by simp)).cell 5
  refine DX hJ hGS hcl hL AJ 23 23 (.pointer (some ⟨gp,5,none⟩)) _ (.bool p.pend) (gslot hJ AJ 18 (by kernel_rfl) (by kernel_rfl) (by decide) rfl rfl) (gslot hJ AJ 18 (by kernel_rfl) (by kernel_rfl) (by decide) rfl rfl) _ rfl rfl _ rfl rfl rfl (by kernel_rfl) rfl rfl fun ρ e0 _=>?_
  clear hJ hsame AJ hcl hsz
  go_simp
 ·intro L a w' hL hsame hsz hJ AJ hcl
  refine DX hJ hGS hcl hL AJ 3 3 (.pointer (some ⟨gq,0,none⟩)) _ (.pointer (some ⟨gq,5,none⟩)) (AY hsame (by kernel_rfl)) (AY hsame (by kernel_rfl)) _ rfl rfl _ rfl rfl rfl (by kernel_rfl) rfl rfl fun ρ e0 _=>?_
  clear hJ hsame AJ hcl hsz
  go_simp
 ·intro L a w' hL hsame hsz hJ AJ hcl
  have q0:w'.cell? ⟨gq,5,none⟩=some (.bool p.pend):=(hJ.Ah (HQ.out) (by simp)).cell 5
  refine DX hJ hGS hcl hL AJ 25 25 (.pointer (some ⟨gq,5,none⟩)) _ (.bool p.pend) (gslot hJ AJ 20 (by kernel_rfl) (by kernel_rfl) (by decide) rfl rfl) (gslot hJ AJ 20 (by kernel_rfl) (by kernel_rfl) (by decide) rfl rfl) _ rfl rfl _ rfl rfl rfl (by kernel_rfl) rfl rfl fun ρ e0 _=>?_
  clear hJ hsame AJ hcl hsz
  go_simp
 ·intro L a w' hL hsame hsz hJ AJ hcl
  refine DX hJ hGS hcl hL AJ 24 26 (.bool p.pend) (.bool p.pend) (.bool true) (gslot hJ AJ 19 (by kernel_rfl) (by kernel_rfl) (by decide) rfl rfl) (gslot hJ AJ 21 (by kernel_rfl) (by kernel_rfl) (by decide) rfl rfl) _ rfl rfl _ rfl rfl rfl (by kernel_rfl) rfl rfl fun ρ e0 e1=>?_
  clear hJ hsame AJ hcl hsz
  go_simp
 ·intro L a w' hL hsame hsz hJ AJ hcl
  refine JD hJ hGS hcl hL 22 27 (.bool true) (.bool true) (.bool true) (gslot hJ AJ 17 (by kernel_rfl) (by kernel_rfl) (by decide) rfl rfl) (gslot hJ AJ 22 (by kernel_rfl) (by kernel_rfl) (by decide) rfl rfl) _ rfl rfl rfl rfl rfl fun ρ hc e0 e1=>?_
  have ec0:=hc (.bool false)
  clear hJ hsame AJ hcl hsz
  go_simp
 ·intro L a w' hL hsame hsz hJ AJ hcl
  refine BG hJ hGS hcl hL 28 (.bool true) (.bool true) (gslot hJ AJ 23 (by kernel_rfl) (by kernel_rfl) (by decide) rfl rfl) _ rfl rfl rfl rfl rfl fun ρ _ e0=>?_
  clear hJ hsame AJ hcl hsz
  go_simp
 ·intro L a w' hL hsame hsz hJ AJ hcl
  refine DX hJ hGS hcl hL AJ 2 2 (.pointer (some ⟨gp,0,none⟩)) _ (.pointer (some ⟨gp,6,none⟩)) (AY hsame (by kernel_rfl)) (AY hsame (by kernel_rfl)) _ rfl rfl _ rfl rfl rfl (by kernel_rfl) rfl rfl fun ρ e0 _=>?_
  clear hJ hsame AJ hcl hsz
  go_simp
 ·intro L a w' hL hsame hsz hJ AJ hcl
  have q0:w'.cell? ⟨gp,6,none⟩=some (.int .i64 p.top):=(hJ.Ah (HP.out) (by simp)).cell 6
  refine DX hJ hGS hcl hL AJ 30 30 (.pointer (some ⟨gp,6,none⟩)) _ (.int .i64 p.top) (gslot hJ AJ 25 (by kernel_rfl) (by kernel_rfl) (by decide) rfl rfl) (gslot hJ AJ 25 (by kernel_rfl) (by kernel_rfl) (by decide) rfl rfl) _ rfl rfl _ rfl rfl rfl (by kernel_rfl) rfl rfl fun ρ e0 _=>?_
  clear hJ hsame AJ hcl hsz
  go_simp
 ·intro L a w' hL hsame hsz hJ AJ hcl
  refine DX hJ hGS hcl hL AJ 3 3 (.pointer (some ⟨gq,0,none⟩)) _ (.pointer (some ⟨gq,6,none⟩)) (AY hsame (by kernel_rfl)) (AY hsame (by kernel_rfl)) _ rfl rfl _ rfl rfl rfl (by kernel_rfl) rfl rfl fun ρ e0 _=>?_
  clear hJ hsame AJ hcl hsz
  go_simp
 ·intro L a w' hL hsame hsz hJ AJ hcl
  have q0:w'.cell? ⟨gq,6,none⟩=some (.int .i64 p.top):=(hJ.Ah (HQ.out) (by simp)).cell 6
  refine DX hJ hGS hcl hL AJ 32 32 (.pointer (some ⟨gq,6,none⟩)) _ (.int .i64 p.top) (gslot hJ AJ 27 (by kernel_rfl) (by kernel_rfl) (by decide) rfl rfl) (gslot hJ AJ 27 (by kernel_rfl) (by kernel_rfl) (by decide) rfl rfl) _ rfl rfl _ rfl rfl rfl (by kernel_rfl) rfl rfl fun ρ e0 _=>?_
  clear hJ hsame AJ hcl hsz
  go_simp
 ·intro L a w' hL hsame hsz hJ AJ hcl
  refine DX hJ hGS hcl hL AJ 31 33 (.int .i64 p.top) (.int .i64 p.top) (.bool true) (gslot hJ AJ 26 (by kernel_rfl) (by kernel_rfl) (by decide) rfl rfl) (gslot hJ AJ 28 (by kernel_rfl) (by kernel_rfl) (by decide) rfl rfl) _ rfl rfl _ rfl rfl rfl (by kernel_rfl) rfl rfl fun ρ e0 e1=>?_
  clear hJ hsame AJ hcl hsz
  go_simp
 ·intro L a w' hL hsame hsz hJ AJ hcl
  refine JD hJ hGS hcl hL 29 34 (.bool true) (.bool true) (.bool true) (gslot hJ AJ 24 (by kernel_rfl) (by kernel_rfl) (by decide) rfl rfl) (gslot hJ AJ 29 (by kernel_rfl) (by kernel_rfl) (by decide) rfl rfl) _ rfl rfl rfl rfl rfl fun ρ hc e0 e1=>?_
  have ec0:=hc (.bool false)
  clear hJ hsame AJ hcl hsz
  go_simp
 ·intro L a w' hL hsame hsz hJ AJ hcl
  refine BG hJ hGS hcl hL 35 (.bool true) (.bool true) (gslot hJ AJ 30 (by kernel_rfl) (by kernel_rfl) (by decide) rfl rfl) _ rfl rfl rfl rfl rfl fun ρ _ e0=>?_
  clear hJ hsame AJ hcl hsz
  go_simp
 ·intro L a w' hL hsame hsz hJ AJ hcl
  refine DX hJ hGS hcl hL AJ 2 2 (.pointer (some ⟨gp,0,none⟩)) _ (.pointer (some ⟨gp,7,none⟩)) (AY hsame (by kernel_rfl)) (AY hsame (by kernel_rfl)) _ rfl rfl _ rfl rfl rfl (by kernel_rfl) rfl rfl fun ρ e0 _=>?_
  clear hJ hsame AJ hcl hsz
  go_simp
 ·intro L a w' hL hsame hsz hJ AJ hcl
  have q0:w'.cell? ⟨gp,7,none⟩=some (.int .i64 p.bot):=(hJ.Ah (HP.out) (by simp)).cell 7
  refine DX hJ hGS hcl hL AJ 37 37 (.pointer (some ⟨gp,7,none⟩)) _ (.int .i64 p.bot) (gslot hJ AJ 32 (by kernel_rfl) (by kernel_rfl) (by decide) rfl rfl) (gslot hJ AJ 32 (by kernel_rfl) (by kernel_rfl) (by decide) rfl rfl) _ rfl rfl _ rfl rfl rfl (by kernel_rfl) rfl rfl fun ρ e0 _=>?_
  clear hJ hsame AJ hcl hsz
  go_simp
 ·intro L a w' hL hsame hsz hJ AJ hcl
  refine DX hJ hGS hcl hL AJ 3 3 (.pointer (some ⟨gq,0,none⟩)) _ (.pointer (some ⟨gq,7,none⟩)) (AY hsame (by kernel_rfl)) (AY hsame (by kernel_rfl)) _ rfl rfl _ rfl rfl rfl (by kernel_rfl) rfl rfl fun ρ e0 _=>?_
  clear hJ hsame AJ hcl hsz
  go_simp
 ·intro L a w' hL hsame hsz hJ AJ hcl
  have q0:w'.cell? ⟨gq,7,none⟩=some (.int .i64 p.bot):=(hJ.Ah (HQ.out) (by simp)).cell 7
  refine DX hJ hGS hcl hL AJ 39 39 (.pointer (some ⟨gq,7,none⟩)) _ (.int .i64 p.bot) (gslot hJ AJ 34 (by kernel_rfl) (by kernel_rfl) (by decide) rfl rfl) (gslot hJ AJ 34 (by kernel_rfl) (by kernel_rfl) (by decide) rfl rfl) _ rfl rfl _ rfl rfl rfl (by kernel_rfl) rfl rfl fun ρ e0 _=>?_
  clear hJ hsame AJ hcl hsz
  go_simp
 ·intro L a w' hL hsame hsz hJ AJ hcl
  refine DX hJ hGS hcl hL AJ 38 40 (.int .i64 p.bot) (.int .i64 p.bot) (.bool true) (gslot hJ AJ 33 (by kernel_rfl) (by kernel_rfl) (by decide) rfl rfl) (gslot hJ AJ 35 (by kernel_rfl) (by kernel_rfl) (by decide) rfl rfl) _ rfl rfl _ rfl rfl rfl (by kernel_rfl) rfl rfl fun ρ e0 e1=>?_
  clear hJ hsame AJ hcl hsz
  go_simp
 ·intro L a w' hL hsame hsz hJ AJ hcl
  refine JD hJ hGS hcl hL 36 41 (.bool true) (.bool true) (.bool true) (gslot hJ AJ 31 (by kernel_rfl) (by kernel_rfl) (by decide) rfl rfl) (gslot hJ AJ 36 (by kernel_rfl) (by kernel_rfl) (by decide) rfl rfl) _ rfl rfl rfl rfl rfl fun ρ hc e0 e1=>?_
  have ec0:=hc (.bool false)
  clear hJ hsame AJ hcl hsz
  go_simp
 ·intro L a w' hL hsame hsz hJ AJ hcl
  refine BG hJ hGS hcl hL 42 (.bool true) (.bool true) (gslot hJ AJ 37 (by kernel_rfl) (by kernel_rfl) (by decide) rfl rfl) _ rfl rfl rfl rfl rfl fun ρ _ e0=>?_
  clear hJ hsame AJ hcl hsz
  go_simp
 ·intro L a w' hL hsame hsz hJ AJ hcl
  refine DX hJ hGS hcl hL AJ 2 2 (.pointer (some ⟨gp,0,none⟩)) _ (.pointer (some ⟨gp,11,none⟩)) (AY hsame (by kernel_rfl)) (AY hsame (by kernel_rfl)) _ rfl rfl _ rfl rfl rfl (by kernel_rfl) rfl rfl fun ρ e0 _=>?_
  clear hJ hsame AJ hcl hsz
  go_simp
 ·intro L a w' hL hsame hsz hJ AJ hcl
  have q0:w'.cell? ⟨gp,11,none⟩=some (.int .u64 p.tabs):=(hJ.Ah (HP.out) (by simp)).cell 11
  refine DX hJ hGS hcl hL AJ 44 44 (.pointer (some ⟨gp,11,none⟩)) _ (.int .u64 p.tabs) (gslot hJ AJ 39 (by kernel_rfl) (by kernel_rfl) (by decide) rfl rfl) (gslot hJ AJ 39 (by kernel_rfl) (by kernel_rfl) (by decide) rfl rfl) _ rfl rfl _ rfl rfl rfl (by kernel_rfl) rfl rfl fun ρ e0 _=>?_
  clear hJ hsame AJ hcl hsz
  go_simp
 ·intro L a w' hL hsame hsz hJ AJ hcl
  refine DX hJ hGS hcl hL AJ 3 3 (.pointer (some ⟨gq,0,none⟩)) _ (.pointer (some ⟨gq,11,none⟩)) (AY hsame (by kernel_rfl)) (AY hsame (by kernel_rfl)) _ rfl rfl _ rfl rfl rfl (by kernel_rfl) rfl rfl fun ρ e0 _=>?_
  clear hJ hsame AJ hcl hsz
  go_simp
 ·intro L a w' hL hsame hsz hJ AJ hcl
  have q0:w'.cell? ⟨gq,11,none⟩=some (.int .u64 p.tabs):=(hJ.Ah (HQ.out) (by simp)).cell 11
  refine DX hJ hGS hcl hL AJ 46 46 (.pointer (some ⟨gq,11,none⟩)) _ (.int .u64 p.tabs) (gslot hJ AJ 41 (by kernel_rfl) (by kernel_rfl) (by decide) rfl rfl) (gslot hJ AJ 41 (by kernel_rfl) (by kernel_rfl) (by decide) rfl rfl) _ rfl rfl _ rfl rfl rfl (by kernel_rfl) rfl rfl fun ρ e0 _=>?_
  clear hJ hsame AJ hcl hsz
  go_simp
 ·intro L a w' hL hsame hsz hJ AJ hcl
  refine DX hJ hGS hcl hL AJ 45 47 (.int .u64 p.tabs) (.int .u64 p.tabs) (.bool true) (gslot hJ AJ 40 (by kernel_rfl) (by kernel_rfl) (by decide) rfl rfl) (gslot hJ AJ 42 (by kernel_rfl) (by kernel_rfl) (by decide) rfl rfl) _ rfl rfl _ rfl rfl rfl (by kernel_rfl) rfl rfl fun ρ e0 e1=>?_
  clear hJ hsame AJ hcl hsz
  go_simp
 ·intro L a w' hL hsame hsz hJ AJ hcl
  refine JD hJ hGS hcl hL 43 48 (.bool true) (.bool true) (.bool true) (gslot hJ AJ 38 (by kernel_rfl) (by kernel_rfl) (by decide) rfl rfl) (gslot hJ AJ 43 (by kernel_rfl) (by kernel_rfl) (by decide) rfl rfl) _ rfl rfl rfl rfl rfl fun ρ hc e0 e1=>?_
  have ec0:=hc (.bool false)
  clear hJ hsame AJ hcl hsz
  go_simp
 ·intro L a w' hL hsame hsz hJ AJ hcl
  refine BG hJ hGS hcl hL 49 (.bool true) (.bool true) (gslot hJ AJ 44 (by kernel_rfl) (by kernel_rfl) (by decide) rfl rfl) _ rfl rfl rfl rfl rfl fun ρ _ e0=>?_
  clear hJ hsame AJ hcl hsz
  go_simp
 ·intro L a w' hL hsame hsz hJ AJ hcl
  refine DX hJ hGS hcl hL AJ 2 2 (.pointer (some ⟨gp,0,none⟩)) _ (.pointer (some ⟨gp,15,none⟩)) (AY hsame (by kernel_rfl)) (AY hsame (by kernel_rfl)) _ rfl rfl _ rfl rfl rfl (by kernel_rfl) rfl rfl fun ρ e0 _=>?_
  clear hJ hsame AJ hcl hsz
  go_simp
 ·intro L a w' hL hsame hsz hJ AJ hcl
  have q0:w'.cell? ⟨gp,15,none⟩=some (.bool p.wrap):=(hJ.Ah (HP.out) (by simp)).cell 15
  refine DX hJ hGS hcl hL AJ 51 51 (.pointer (some ⟨gp,15,none⟩)) _ (.bool p.wrap) (gslot hJ AJ 46 (by kernel_rfl) (by kernel_rfl) (by decide) rfl rfl) (gslot hJ AJ 46 (by kernel_rfl) (by kernel_rfl) (by decide) rfl rfl) _ rfl rfl _ rfl rfl rfl (by kernel_rfl) rfl rfl fun ρ e0 _=>?_
  clear hJ hsame AJ hcl hsz
  go_simp
 ·intro L a w' hL hsame hsz hJ AJ hcl
  refine DX hJ hGS hcl hL AJ 3 3 (.pointer (some ⟨gq,0,none⟩)) _ (.pointer (some ⟨gq,15,none⟩)) (AY hsame (by kernel_rfl)) (AY hsame (by kernel_rfl)) _ rfl rfl _ rfl rfl rfl (by kernel_rfl) rfl rfl fun ρ e0 _=>?_
  clear hJ hsame AJ hcl hsz
  go_simp
 ·intro L a w' hL hsame hsz hJ AJ hcl
  have q0:w'.cell? ⟨gq,15,none⟩=some (.bool p.wrap):=(hJ.Ah (HQ.out) (by simp)).cell 15
  refine DX hJ hGS hcl hL AJ 53 53 (.pointer (some ⟨gq,15,none⟩)) _ (.bool p.wrap) (gslot hJ AJ 48 (by kernel_rfl) (by kernel_rfl) (by decide) rfl rfl) (gslot hJ AJ 48 (by kernel_rfl) (by kernel_rfl) (by decide) rfl rfl) _ rfl rfl _ rfl rfl rfl (by kernel_rfl) rfl rfl fun ρ e0 _=>?_
  clear hJ hsame AJ hcl hsz
  go_simp
 ·intro L a w' hL hsame hsz hJ AJ hcl
  refine DX hJ hGS hcl hL AJ 52 54 (.bool p.wrap) (.bool p.wrap) (.bool true) (gslot hJ AJ 47 (by kernel_rfl) (by kernel_rfl) (by decide) rfl rfl) (gslot hJ AJ 49 (by kernel_rfl) (by kernel_rfl) (by decide) rfl rfl) _ rfl rfl _ rfl rfl rfl (by kernel_rfl) rfl rfl fun ρ e0 e1=>?_
  clear hJ hsame AJ hcl hsz
  go_simp
 ·intro L a w' hL hsame hsz hJ AJ hcl
  refine JD hJ hGS hcl hL 50 55 (.bool true) (.bool true) (.bool true) (gslot hJ AJ 45 (by kernel_rfl) (by kernel_rfl) (by decide) rfl rfl) (gslot hJ AJ 50 (by kernel_rfl) (by kernel_rfl) (by decide) rfl rfl) _ rfl rfl rfl rfl rfl fun ρ hc e0 e1=>?_
  have ec0:=hc (.bool false)
  clear hJ hsame AJ hcl hsz
  go_simp
 ·intro L a w' hL hsame hsz hJ AJ hcl
  refine BG hJ hGS hcl hL 56 (.bool true) (.bool true) (gslot hJ AJ 51 (by kernel_rfl) (by kernel_rfl) (by decide) rfl rfl) _ rfl rfl rfl rfl rfl fun ρ _ e0=>?_
  clear hJ hsame AJ hcl hsz
  go_simp
 ·intro L a w' hL hsame hsz hJ AJ hcl
  refine DX hJ hGS hcl hL AJ 2 2 (.pointer (some ⟨gp,0,none⟩)) _ (.pointer (some ⟨gp,18,none⟩)) (AY hsame (by kernel_rfl)) (AY hsame (by kernel_rfl)) _ rfl rfl _ rfl rfl rfl (by kernel_rfl) rfl rfl fun ρ e0 _=>?_
  clear hJ hsame AJ hcl hsz
  go_simp
 ·intro L a w' hL hsame hsz hJ AJ hcl
  have q0:w'.cell? ⟨gp,18,none⟩=some (.bool p.keys):=(hJ.Ah (HP.out) (by simp)).cell 18
  refine DX hJ hGS hcl hL AJ 58 58 (.pointer (some ⟨gp,18,none⟩)) _ (.bool p.keys) (gslot hJ AJ 53 (by kernel_rfl) (by kernel_rfl) (by decide) rfl rfl) (gslot hJ AJ 53 (by kernel_rfl) (by kernel_rfl) (by decide) rfl rfl) _ rfl rfl _ rfl rfl rfl (by kernel_rfl) rfl rfl fun ρ e0 _=>?_
  clear hJ hsame AJ hcl hsz
  go_simp
 ·intro L a w' hL hsame hsz hJ AJ hcl
  refine DX hJ hGS hcl hL AJ 3 3 (.pointer (some ⟨gq,0,none⟩)) _ (.pointer (some ⟨gq,18,none⟩)) (AY hsame (by kernel_rfl)) (AY hsame (by kernel_rfl)) _ rfl rfl _ rfl rfl rfl (by kernel_rfl) rfl rfl fun ρ e0 _=>?_
  clear hJ hsame AJ hcl hsz
  go_simp
 ·intro L a w' hL hsame hsz hJ AJ hcl
  have q0:w'.cell? ⟨gq,18,none⟩=some (.bool p.keys):=(hJ.Ah (HQ.out) (by simp)).cell 18
  refine DX hJ hGS hcl hL AJ 60 60 (.pointer (some ⟨gq,18,none⟩)) _ (.bool p.keys) (gslot hJ AJ 55 (by kernel_rfl) (by kernel_rfl) (by decide) rfl rfl) (gslot hJ AJ 55 (by kernel_rfl) (by kernel_rfl) (by decide) rfl rfl) _ rfl rfl _ rfl rfl rfl (by kernel_rfl) rfl rfl fun ρ e0 _=>?_
  clear hJ hsame AJ hcl hsz
  go_simp
 ·intro L a w' hL hsame hsz hJ AJ hcl
  refine DX hJ hGS hcl hL AJ 59 61 (.bool p.keys) (.bool p.keys) (.bool true) (gslot hJ AJ 54 (by kernel_rfl) (by kernel_rfl) (by decide) rfl rfl) (gslot hJ AJ 56 (by kernel_rfl) (by kernel_rfl) (by decide) rfl rfl) _ rfl rfl _ rfl rfl rfl (by kernel_rfl) rfl rfl fun ρ e0 e1=>?_
  clear hJ hsame AJ hcl hsz
  go_simp
 ·intro L a w' hL hsame hsz hJ AJ hcl
  refine JD hJ hGS hcl hL 57 62 (.bool true) (.bool true) (.bool true) (gslot hJ AJ 52 (by kernel_rfl) (by kernel_rfl) (by decide) rfl rfl) (gslot hJ AJ 57 (by kernel_rfl) (by kernel_rfl) (by decide) rfl rfl) _ rfl rfl rfl rfl rfl fun ρ hc e0 e1=>?_
  have ec0:=hc (.bool false)
  clear hJ hsame AJ hcl hsz
  go_simp
 ·intro L a w' hL hsame hsz hJ AJ hcl
  refine BG hJ hGS hcl hL 63 (.bool true) (.bool true) (gslot hJ AJ 58 (by kernel_rfl) (by kernel_rfl) (by decide) rfl rfl) _ rfl rfl rfl rfl rfl fun ρ _ e0=>?_
  clear hJ hsame AJ hcl hsz
  go_simp
 ·intro L a w' hL hsame hsz hJ AJ hcl
  refine DX hJ hGS hcl hL AJ 2 2 (.pointer (some ⟨gp,0,none⟩)) _ (.pointer (some ⟨gp,19,none⟩)) (AY hsame (by kernel_rfl)) (AY hsame (by kernel_rfl)) _ rfl rfl _ rfl rfl rfl (by kernel_rfl) rfl rfl fun ρ e0 _=>?_
  clear hJ hsame AJ hcl hsz
  go_simp
 ·intro L a w' hL hsame hsz hJ AJ hcl
  have q0:w'.cell? ⟨gp,19,none⟩=some (.bool p.pad):=(hJ.Ah (HP.out) (by simp)).cell 19
  refine DX hJ hGS hcl hL AJ 65 65 (.pointer (some ⟨gp,19,none⟩)) _ (.bool p.pad) (gslot hJ AJ 60 (by kernel_rfl) (by kernel_rfl) (by decide) rfl rfl) (gslot hJ AJ 60 (by kernel_rfl) (by kernel_rfl) (by decide) rfl rfl) _ rfl rfl _ rfl rfl rfl (by kernel_rfl) rfl rfl fun ρ e0 _=>?_
  clear hJ hsame AJ hcl hsz
  go_simp
 ·intro L a w' hL hsame hsz hJ AJ hcl
  refine DX hJ hGS hcl hL AJ 3 3 (.pointer (some ⟨gq,0,none⟩)) _ (.pointer (some ⟨gq,19,none⟩)) (AY hsame (by kernel_rfl)) (AY hsame (by kernel_rfl)) _ rfl rfl _ rfl rfl rfl (by kernel_rfl) rfl rfl fun ρ e0 _=>?_
  clear hJ hsame AJ hcl hsz
  go_simp
 ·intro L a w' hL hsame hsz hJ AJ hcl
  have q0:w'.cell? ⟨gq,19,none⟩=some (.bool p.pad):=(hJ.Ah (HQ.out) (by simp)).cell 19
  refine DX hJ hGS hcl hL AJ 67 67 (.pointer (some ⟨gq,19,none⟩)) _ (.bool p.pad) (gslot hJ AJ 62 (by kernel_rfl) (by kernel_rfl) (by decide) rfl rfl) (gslot hJ AJ 62 (by kernel_rfl) (by kernel_rfl) (by decide) rfl rfl) _ rfl rfl _ rfl rfl rfl (by kernel_rfl) rfl rfl fun ρ e0 _=>?_
  clear hJ hsame AJ hcl hsz
  go_simp
 ·intro L a w' hL hsame hsz hJ AJ hcl
  refine DX hJ hGS hcl hL AJ 66 68 (.bool p.pad) (.bool p.pad) (.bool true) (gslot hJ AJ 61 (by kernel_rfl) (by kernel_rfl) (by decide) rfl rfl) (gslot hJ AJ 63 (by kernel_rfl) (by kernel_rfl) (by decide) rfl rfl) _ rfl rfl _ rfl rfl rfl (by kernel_rfl) rfl rfl fun ρ e0 e1=>?_
  clear hJ hsame AJ hcl hsz
  go_simp
 ·intro L a w' hL hsame hsz hJ AJ hcl
  refine JD hJ hGS hcl hL 64 69 (.bool true) (.bool true) (.bool true) (gslot hJ AJ 59 (by kernel_rfl) (by kernel_rfl) (by decide) rfl rfl) (gslot hJ AJ 64 (by kernel_rfl) (by kernel_rfl) (by decide) rfl rfl) _ rfl rfl rfl rfl rfl fun ρ hc e0 e1=>?_
  have ec0:=hc (.bool false)
  clear hJ hsame AJ hcl hsz
  go_simp
 ·intro L a w' hL hsame hsz hJ AJ hcl
  refine BG hJ hGS hcl hL 70 (.bool true) (.bool true) (gslot hJ AJ 65 (by kernel_rfl) (by kernel_rfl) (by decide) rfl rfl) _ rfl rfl rfl rfl rfl fun ρ _ e0=>?_
  clear hJ hsame AJ hcl hsz
  go_simp
 ·intro u w' hF
  change Exit.then _ _ Exit.normal (Act.put (Act.put (Act.put (Act.put (Act.put (Act.put (Act.put (Act.put (Act.put (Act.put (Act.put (Act.put (Act.put (Act.put (Act.put (Act.put (Act.put (Act.put (Act.put (Act.put (Act.put (Act.put (Act.put (Act.put (Act.put (Act.put (Act.put (Act.put (Act.put (Act.put (Act.put (Act.put (Act.put (Act.put (Act.put (Act.put (Act.put (Act.put (Act.put (Act.put (Act.put (Act.put (Act.put (Act.put (Act.put (Act.put (Act.put (Act.put (Act.put (Act.put (Act.put (Act.put (Act.put (Act.put (Act.put (Act.put (Act.put (Act.put (Act.put (Act.put (Act.put (Act.put (Act.put (Act.put (Act.put (Act.put (Act.put (Az _ u 0 _) (some 5) (u 0)) (some 6) (u 1)) (some 7) (u 2)) (some 8) (u 3)) (some 9) (u 4)) (some 10) (u 5)) (some 11) (u 6)) (some 12) (u 7)) (some 13) (u 8)) (some 14) (u 9)) (some 15) (u 10)) (some 16) (u 11)) (some 17) (u 12)) (some 18) (u 13)) (some 19) (u 14)) (some 20) (u 15)) (some 21) (u 16)) (some 22) (u 17)) (some 23) (u 18)) (some 24) (u 19)) (some 25) (u 20)) (some 26) (u 21)) (some 27) (u 22)) (some 28) (u 23)) (some 29) (u 24)) (some 30) (u 25)) (some 31) (u 26)) (some 32) (u 27)) (some 33) (u 28)) (some 34) (u 29)) (some 35) (u 30)) (some 36) (u 31)) (some 37) (u 32)) (some 38) (u 33)) (some 39) (u 34)) (some 40) (u 35)) (some 41) (u 36)) (some 42) (u 37)) (some 43) (u 38)) (some 44) (u 39)) (some 45) (u 40)) (some 46) (u 41)) (some 47) (u 42)) (some 48) (u 43)) (some 49) (u 44)) (some 50) (u 45)) (some 51) (u 46)) (some 52) (u 47)) (some 53) (u 48)) (some 54) (u 49)) (some 55) (u 50)) (some 56) (u 51)) (some 57) (u 52)) (some 58) (u 53)) (some 59) (u 54)) (some 60) (u 55)) (some 61) (u 56)) (some 62) (u 57)) (some 63) (u 58)) (some 64) (u 59)) (some 65) (u 60)) (some 66) (u 61)) (some 67) (u 62)) (some 68) (u 63)) (some 69) (u 64)) (some 70) (u 65)) (some 4) (u 66)) _
  simp only [Az]
  have f:u 66=.bool true:=hF.Pz (j:=66) (by decide) rfl rfl
  have hk:=hF.kept.toBelow (Nat.le_refl _) (by simp)
  clear hF
  generalize u 0=z0
  generalize u 1=z1
  generalize u 2=z2
  generalize u 3=z3
  generalize u 4=z4
  generalize u 5=z5
  generalize u 6=z6
  generalize u 7=z7
  generalize u 8=z8
  generalize u 9=z9
  generalize u 10=z10
  generalize u 11=z11
  generalize u 12=z12
  generalize u 13=z13
  generalize u 14=z14
  generalize u 15=z15
  generalize u 16=z16
  generalize u 17=z17
  generalize u 18=z18
  generalize u 19=z19
  generalize u 20=z20
  generalize u 21=z21
  generalize u 22=z22
  generalize u 23=z23
  generalize u 24=z24
  generalize u 25=z25
  generalize u 26=z26
  generalize u 27=z27
  generalize u 28=z28
  generalize u 29=z29
  generalize u 30=z30
  generalize u 31=z31
  generalize u 32=z32
  generalize u 33=z33
  generalize u 34=z34
  generalize u 35=z35
  generalize u 36=z36
  generalize u 37=z37
  generalize u 38=z38
  generalize u 39=z39
  generalize u 40=z40
  generalize u 41=z41
  generalize u 42=z42
  generalize u 43=z43
  generalize u 44=z44
  generalize u 45=z45
  generalize u 46=z46
  generalize u 47=z47
  generalize u 48=z48
  generalize u 49=z49
  generalize u 50=z50
  generalize u 51=z51
  generalize u 52=z52
  generalize u 53=z53
  generalize u 54=z54
  generalize u 55=z55
  generalize u 56=z56
  generalize u 57=z57
  generalize u 58=z58
  generalize u 59=z59
  generalize u 60=z60
  generalize u 61=z61
  generalize u 62=z62
  generalize u 63=z63
  generalize u 64=z64
  generalize u 65=z65
  generalize u 66=z66 at f⊢
  subst f
  go_simp
  go_step
  refine wp_ret ?_
  (try simp only [Exit.then,Exit.inBlock])
  exact bodyPost_ret (v:=.bool true) (by simp [results,Tryz.results23,go_sem]) rfl ⟨rfl,HW.out.trans (hk.mono HW.out.size)⟩
end Go.Proofs.YtoaabebgmdbjeaaGreatDoor
namespace Go.Proofs.YtoaabebgmdbjeaaGreatDoor.PA
structure RC where
 priv:Int
 inter:Int
 many:Nat
 right:Bool
 first:Bool
 params:List Int
def rc0:RC:=⟨0,0,0,true,true, [-1]⟩
def Cj (s:RC) (c:Int):RC:=
 if c<48 then ⟨s.priv,c,s.many+1,s.right,false,s.params⟩
 else if 0<s.many\/c=58 then ⟨s.priv,s.inter,s.many,false,false,s.params⟩
 else if 60<=c then ⟨c,s.inter,s.many,s.right&&s.first,false,s.params⟩
 else if c=59 then ⟨s.priv,s.inter,s.many,s.right,false,s.params++ [-1]⟩
 else ⟨s.priv,s.inter,s.many,s.right,false,s.params.set (s.params.length-1) (up (s.params.getD (s.params.length-1) 0) (c-48))⟩
end Go.Proofs.YtoaabebgmdbjeaaGreatDoor.PA
