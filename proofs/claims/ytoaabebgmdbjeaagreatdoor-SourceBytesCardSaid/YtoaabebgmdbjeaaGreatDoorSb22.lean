/- The landed source's move, csi, told plainly. (written by tools/gensourcemove.py) -/
import Derived.Test.YtoaabebgmdbjeaaGreatDoorSb21
set_option maxRecDepth 100000
set_option maxHeartbeats 16000000
set_option linter.unusedVariables false
namespace Go.Proofs.YtoaabebgmdbjeaaGreatDoor
open Go Go.RowKit
theorem SN.Ku {s:SN.Sc} (hs:SN.Ac s) (r:Int):SN.atS (SN.atS s r s.col) (SN.atS s r s.col).row 0=SN.atS s r 0:=by
 have e1:SN.pin ((SN.pin r s.g.rows:Nat):Int) s.g.rows=SN.pin r s.g.rows:=SN.Ol (SN.L6 _ hs.g.1)
 show SN.Sc.u5 (((SN.atS s r s.col).u3 (SN.pin ((SN.pin r s.g.rows:Nat):Int) s.g.rows)).u4 (SN.pin 0 s.g.AB)) false=SN.atS s r 0
 rw [e1]
 rfl
theorem jN (s t:SN.Sc) (v:Value) (kd rn pv it fn:Int) (Ae:Option Addr) (n c B:Nat) (tx:ByteArray) (l:List Int) (w:World) (hs:SN.Ac s) (hl:Seen w B Ae n (l.map (Value.int .i64))) (hB:B<=w.heap.size) (hn:n<=100) (hnc:n<=c) (hlb: ∀x∈l, -1<=x/\x<=65535) (hF:Df w) (ht:(SN.MF s fn l).getD (SN.Fu s fn l)=t) (h:IsS w s v):Calls Tryz.prog 137 #[v,.agg #[.int .i64 kd,.int .i32 rn,.int .u8 pv,.int .u8 it,.int .u8 fn,.slice Ae n c,.string tx]] w (BD w t):=by
 obtain⟨x,rfl,hg⟩:=h
 obtain⟨A,cp,rfl⟩:=Ad hg
 have HG:=hide hg
 have hgr:=hs.g.2.1
 have hgc:=hs.g.2.2.2.1
 have hR1:=hs.g.1
 have hK1:=hs.g.2.2.1
 have hrow:=hs.row
 have CJ:=hs.col
 have htop:=SN.DZ hs
 have JQ:=hs.bot
 have a0:=SN.LG hlb 0
 have a1:=SN.LG hlb 1
 obtain⟨m,hm⟩: ∃m:Nat,SN.Bd l 0 1=(m:Int):=⟨(SN.Bd l 0 1).toNat,by omega⟩
 obtain⟨k,hk⟩: ∃k:Nat,SN.Bd l 1 1=(k:Int):=⟨(SN.Bd l 1 1).toNat,by omega⟩
 have hm1:1<=m/\m<=65535:=by omega
 have hk1:1<=k/\k<=65535:=by omega
 have HT0:=hide ht
 have EM:=hide hm
 have EK:=hide hk
 have HS:=hide hs
 have HL:=hide hl
 have HLB:=hide hlb
 have HF:=hide hF
 have NM:=hide (fun w' (hb:Below w.heap.size w w')=>(show Calls Tryz.prog 168 #[.agg #[.int .i64 kd,.int .i32 rn,.int .u8 pv,.int .u8 it,.int .u8 fn,.slice Ae n c,.string tx],.int .i64 0] w' (fun e w''=>e=.returned (.int .i64 (m:Nat))/\Below w'.heap.size w' w'') from Jv kd rn pv it fn Ae n c B tx l 0 _ hm w' (hl.below (hb.mono hB)) (Nat.le_trans hB hb.size) hlb))
 clear ht hs hg hl hlb hm hk hF a0 a1
 go_enter Tryz.func137,Tryz.ntmps137
 go_upto_region 1 with (refine Dw HG _ rfl rfl rfl _ rfl rfl (fun _=>rfl) rfl rfl ?_;intro g gE gR w2 csR hsR HB2 HE2 HW2 HR2 HG2 hne FM FN hg1 Ai)
 clear HG
 obtain⟨e0,e1,e2,e3,e4,e5,e6⟩:=HE2.out.Bo
 go_wp2_with fail
 refine(NM.out _ HW2.out).mono ?_
 rintro e w3 ⟨rfl,b3⟩
 obtain⟨HB3,HR3,HW3,HG3⟩:=Jo b3 HB2 HR2 HW2 HG2
 have HE3:=hide (HE2.out.below b3 HE2.out.lt)
 clear e0 e1 e2 e3 e4 e5 e6
 clear HB2 HR2 HW2 HG2 HE2 b3
 clear NM
 go_upto_region 2 with fail
 by_cases f65:fn=65
 ·as_aux_lemma=>
  subst f65
  have ht:SN.upS s (SN.Bd l 0 1).toNat=t:=HT0.out
  rw [EM.out,Int.toNat_natCast] at ht
  have AT:=hide (fun w' v' h=>(show Calls Tryz.prog 169 #[v',.int .i64 (m:Nat)] w' (BD w' t) from ht▸Zp s v' m w' hm1.2 HS.out h))
  clear HT0 ht
  have e4:w3.cell? ⟨gE,4,none⟩=some (.int .u8 65):=HE3.out.cell 4
  go_wp2_with (refine AX HB3.out rfl _ rfl rfl ?_)
  refine(AT.out _ _ ⟨_,rfl,HG3.out⟩).mono (Al HR3 HW3 fun A7 c7 w7 HR7 HW7 HG7=>?_)
  clear e4
  clear HB3 HR3 HW3 HG3 HE3
  go_wp2_with (refine AQ HR7.out hsR rfl _ _ rfl rfl rfl rfl ?_;intro w8 hB8 hk8 hs8)
  exact BX rfl rfl rfl hB8 HG7 HR7 HW7 hk8 Ai
 by_cases f66:fn=66
 ·as_aux_lemma=>
  subst f66
  have ht:SN.Iz s (SN.Bd l 0 1).toNat=t:=HT0.out
  rw [EM.out,Int.toNat_natCast] at ht
  have AT:=hide (fun w' v' h=>(show Calls Tryz.prog 170 #[v',.int .i64 (m:Nat)] w' (BD w' t) from ht▸Qn s v' m w' hm1.2 HS.out h))
  clear HT0 ht
  have e4:w3.cell? ⟨gE,4,none⟩=some (.int .u8 66):=HE3.out.cell 4
  go_wp2_with (refine AX HB3.out rfl _ rfl rfl ?_)
  refine(AT.out _ _ ⟨_,rfl,HG3.out⟩).mono (Al HR3 HW3 fun A7 c7 w7 HR7 HW7 HG7=>?_)
  clear e4
  clear HB3 HR3 HW3 HG3 HE3
  go_wp2_with (refine AQ HR7.out hsR rfl _ _ rfl rfl rfl rfl ?_;intro w8 hB8 hk8 hs8)
  exact BX rfl rfl rfl hB8 HG7 HR7 HW7 hk8 Ai
 by_cases f67:fn=67
 ·as_aux_lemma=>
  subst f67
  have ht:SN.atS s s.row ((s.col:Int)+(SN.Bd l 0 1))=t:=HT0.out
  rw [EM.out] at ht
  have AT:=hide (fun w' v' h=>(show Calls Tryz.prog 109 #[v',.int .i64 (s.row:Nat),.int .i64 ((s.col:Int)+m)] w' (BD w' t) from ht▸FH s v' (s.row:Nat) ((s.col:Int)+m) w' HS.out (by omega) (by omega) h))
  clear HT0 ht
  have e4:w3.cell? ⟨gE,4,none⟩=some (.int .u8 67):=HE3.out.cell 4
  have k3:=HB3.out.c3
  have k4:=HB3.out.c4
  go_wp2_with (refine AX HB3.out rfl _ rfl rfl ?_)
  refine(AT.out _ _ ⟨_,rfl,HG3.out⟩).mono (Al HR3 HW3 fun A7 c7 w7 HR7 HW7 HG7=>?_)
  clear e4 k3 k4
  clear HB3 HR3 HW3 HG3 HE3
  go_wp2_with (refine AQ HR7.out hsR rfl _ _ rfl rfl rfl rfl ?_;intro w8 hB8 hk8 hs8)
  exact BX rfl rfl rfl hB8 HG7 HR7 HW7 hk8 Ai
 by_cases f68:fn=68
 ·as_aux_lemma=>
  subst f68
  have ht:SN.atS s s.row ((s.col:Int)-(SN.Bd l 0 1))=t:=HT0.out
  rw [EM.out] at ht
  have AT:=hide (fun w' v' h=>(show Calls Tryz.prog 109 #[v',.int .i64 (s.row:Nat),.int .i64 ((s.col:Int)-m)] w' (BD w' t) from ht▸FH s v' (s.row:Nat) ((s.col:Int)-m) w' HS.out (by omega) (by omega) h))
  clear HT0 ht
  have e4:w3.cell? ⟨gE,4,none⟩=some (.int .u8 68):=HE3.out.cell 4
  have k3:=HB3.out.c3
  have k4:=HB3.out.c4
  go_wp2_with (refine AX HB3.out rfl _ rfl rfl ?_)
  refine(AT.out _ _ ⟨_,rfl,HG3.out⟩).mono (Al HR3 HW3 fun A7 c7 w7 HR7 HW7 HG7=>?_)
  clear e4 k3 k4
  clear HB3 HR3 HW3 HG3 HE3
  go_wp2_with (refine AQ HR7.out hsR rfl _ _ rfl rfl rfl rfl ?_;intro w8 hB8 hk8 hs8)
  exact BX rfl rfl rfl hB8 HG7 HR7 HW7 hk8 Ai
 by_cases f69:fn=69
 ·as_aux_lemma=>
  subst f69
  have ht:SN.atS s (SN.Uk s (SN.Bd l 0 1).toNat) 0=t:=HT0.out
  rw [EM.out,Int.toNat_natCast] at ht
  have A1:=hide (fun w' v' h=>Qn s v' m w' hm1.2 HS.out h)
  have hRT:SN.Ac (SN.Iz s m):=SN.Di HS.out _ _
  have hTT:SN.atS (SN.Iz s m) (SN.Iz s m).row 0=t:=by
   rw [<- ht]
   exact SN.Ku HS.out _
  generalize SN.Iz s m=T at A1 hRT hTT
  have AT:=hide (fun w' v' h=>FU T t v' w' hRT hTT h)
  clear HT0 ht hRT hTT
  have e4:w3.cell? ⟨gE,4,none⟩=some (.int .u8 69):=HE3.out.cell 4
  go_wp2_with (refine AX HB3.out rfl _ rfl rfl ?_)
  refine(A1.out _ _ ⟨_,rfl,HG3.out⟩).mono ?_
  rintro e w4 ⟨v4,rfl,hi4,hb4⟩
  have HR4:=hide (HR3.out.below hb4 HR3.out.lt)
  have HW4:=hide (HW3.out.trans (hb4.mono HW3.out.size))
  have HI4:=hide hi4
  clear hi4 hb4 HB3 HR3 HW3 HG3 HE3 A1 e4
  go_wp2_with fail
  refine(AT.out _ _ HI4.out).mono (Al HR4 HW4 fun A7 c7 w7 HR7 HW7 HG7=>?_)
  clear HR4 HW4 HI4
  go_wp2_with (refine AQ HR7.out hsR rfl _ _ rfl rfl rfl rfl ?_;intro w8 hB8 hk8 hs8)
  exact BX rfl rfl rfl hB8 HG7 HR7 HW7 hk8 Ai
 by_cases f70:fn=70
 ·as_aux_lemma=>
  subst f70
  have ht:SN.atS s (SN.upR s (SN.Bd l 0 1).toNat) 0=t:=HT0.out
  rw [EM.out,Int.toNat_natCast] at ht
  have A1:=hide (fun w' v' h=>Zp s v' m w' hm1.2 HS.out h)
  have hRT:SN.Ac (SN.upS s m):=SN.Di HS.out _ _
  have hTT:SN.atS (SN.upS s m) (SN.upS s m).row 0=t:=by
   rw [<- ht]
   exact SN.Ku HS.out _
  generalize SN.upS s m=T at A1 hRT hTT
  have AT:=hide (fun w' v' h=>FU T t v' w' hRT hTT h)
  clear HT0 ht hRT hTT
  have e4:w3.cell? ⟨gE,4,none⟩=some (.int .u8 70):=HE3.out.cell 4
  go_wp2_with (refine AX HB3.out rfl _ rfl rfl ?_)
  refine(A1.out _ _ ⟨_,rfl,HG3.out⟩).mono ?_
  rintro e w4 ⟨v4,rfl,hi4,hb4⟩
  have HR4:=hide (HR3.out.below hb4 HR3.out.lt)
  have HW4:=hide (HW3.out.trans (hb4.mono HW3.out.size))
  have HI4:=hide hi4
  clear hi4 hb4 HB3 HR3 HW3 HG3 HE3 A1 e4
  go_wp2_with fail
  refine(AT.out _ _ HI4.out).mono (Al HR4 HW4 fun A7 c7 w7 HR7 HW7 HG7=>?_)
  clear HR4 HW4 HI4
  go_wp2_with (refine AQ HR7.out hsR rfl _ _ rfl rfl rfl rfl ?_;intro w8 hB8 hk8 hs8)
  exact BX rfl rfl rfl hB8 HG7 HR7 HW7 hk8 Ai
 by_cases f71:fn=71
 ·as_aux_lemma=>
  subst f71
  have ht:SN.atS s s.row ((SN.Bd l 0 1)-1)=t:=HT0.out
  rw [EM.out] at ht
  have AT:=hide (fun w' v' h=>(show Calls Tryz.prog 109 #[v',.int .i64 (s.row:Nat),.int .i64 ((m:Int)-1)] w' (BD w' t) from ht▸FH s v' (s.row:Nat) ((m:Int)-1) w' HS.out (by omega) (by omega) h))
  clear HT0 ht
  have e4:w3.cell? ⟨gE,4,none⟩=some (.int .u8 71):=HE3.out.cell 4
  have k3:=HB3.out.c3
  go_wp2_with (refine AX HB3.out rfl _ rfl rfl ?_)
  refine(AT.out _ _ ⟨_,rfl,HG3.out⟩).mono (Al HR3 HW3 fun A7 c7 w7 HR7 HW7 HG7=>?_)
  clear e4 k3
  clear HB3 HR3 HW3 HG3 HE3
  go_wp2_with (refine AQ HR7.out hsR rfl _ _ rfl rfl rfl rfl ?_;intro w8 hB8 hk8 hs8)
  exact BX rfl rfl rfl hB8 HG7 HR7 HW7 hk8 Ai
 by_cases f96:fn=96
 ·as_aux_lemma=>
  subst f96
  have ht:SN.atS s s.row ((SN.Bd l 0 1)-1)=t:=HT0.out
  rw [EM.out] at ht
  have AT:=hide (fun w' v' h=>(show Calls Tryz.prog 109 #[v',.int .i64 (s.row:Nat),.int .i64 ((m:Int)-1)] w' (BD w' t) from ht▸FH s v' (s.row:Nat) ((m:Int)-1) w' HS.out (by omega) (by omega) h))
  clear HT0 ht
  have e4:w3.cell? ⟨gE,4,none⟩=some (.int .u8 96):=HE3.out.cell 4
  have k3:=HB3.out.c3
  go_wp2_with (refine AX HB3.out rfl _ rfl rfl ?_)
  refine(AT.out _ _ ⟨_,rfl,HG3.out⟩).mono (Al HR3 HW3 fun A7 c7 w7 HR7 HW7 HG7=>?_)
  clear e4 k3
  clear HB3 HR3 HW3 HG3 HE3
  go_wp2_with (refine AQ HR7.out hsR rfl _ _ rfl rfl rfl rfl ?_;intro w8 hB8 hk8 hs8)
  exact BX rfl rfl rfl hB8 HG7 HR7 HW7 hk8 Ai
 by_cases f100:fn=100
 ·as_aux_lemma=>
  subst f100
  have ht:SN.goS s ((SN.Bd l 0 1)-1) s.col=t:=HT0.out
  rw [EM.out] at ht
  have AT:=hide (fun w' v' h=>(show Calls Tryz.prog 171 #[v',.int .i64 ((m:Int)-1),.int .i64 (s.col:Nat)] w' (BD w' t) from ht▸Oz s v' ((m:Int)-1) (s.col:Nat) w' HS.out (by omega) (by omega) h))
  clear HT0 ht
  have e4:w3.cell? ⟨gE,4,none⟩=some (.int .u8 100):=HE3.out.cell 4
  have k4:=HB3.out.c4
  go_wp2_with (refine AX HB3.out rfl _ rfl rfl ?_)
  refine(AT.out _ _ ⟨_,rfl,HG3.out⟩).mono (Al HR3 HW3 fun A7 c7 w7 HR7 HW7 HG7=>?_)
  clear e4 k4
  clear HB3 HR3 HW3 HG3 HE3
  go_wp2_with (refine AQ HR7.out hsR rfl _ _ rfl rfl rfl rfl ?_;intro w8 hB8 hk8 hs8)
  exact BX rfl rfl rfl hB8 HG7 HR7 HW7 hk8 Ai
 by_cases f72:fn=72
 ·as_aux_lemma=>
  subst f72
  have ht:SN.goS s ((SN.Bd l 0 1)-1) (SN.Bd l 1 1-1)=t:=HT0.out
  rw [EM.out,EK.out] at ht
  have GG:=hide (fun w' v' h=>(show Calls Tryz.prog 171 #[v',.int .i64 ((m:Int)-1),.int .i64 ((k:Int)-1)] w' (BD w' t) from ht▸Oz s v' ((m:Int)-1) ((k:Int)-1) w' HS.out (by omega) (by omega) h))
  have OK:=hide (fun w' (hb:Below w.heap.size w w')=>(show Calls Tryz.prog 168 #[.agg #[.int .i64 kd,.int .i32 rn,.int .u8 pv,.int .u8 it,.int .u8 72,.slice Ae n c,.string tx],.int .i64 1] w' (fun e w''=>e=.returned (.int .i64 (k:Nat))/\Below w'.heap.size w' w'') from Jv kd rn pv it 72 Ae n c B tx l 1 _ EK.out w' (HL.out.below (hb.mono hB)) (Nat.le_trans hB hb.size) HLB.out))
  clear HT0 ht
  have e4:w3.cell? ⟨gE,4,none⟩=some (.int .u8 72):=HE3.out.cell 4
  go_upto_region 22 with fail
  clear e4
  have HO:=hide (fun w' (hb:Below w3.heap.size w3 w')=>OK.out w' (HW3.out.trans (hb.mono HW3.out.size)))
  have GX:=hide (fun w' (hb:Below w3.heap.size w3 w')=>GG.out w' _ ⟨_,rfl,HG3.out.low hb⟩)
  clear OK GG
  go_simp
  refine Bh (n:=82) 7 [] (fun _=> #[]) [(0,0,0,0,0),(0,0,0,0,0),(0,0,0,0,0),(0,0,0,0,0),(0,0,0,0,0),(0,0,0,0,0),(1,0,0,0,0),(0,0,0,0,0)] (fun j=> [(.agg (scA (.slice A (s.g.rows*s.g.AB) cp) s)),(.int .i64 (m:Nat)),(.int .i64 ((m:Int)-1)),(.agg #[.int .i64 kd,.int .i32 rn,.int .u8 pv,.int .u8 it,.int .u8 72,.slice Ae n c,.string tx]),(.int .i64 (k:Nat)),(.int .i64 ((k:Int)-1)),undef,undef].getD j undef) [none,none,none,none,none,none,some (C8 t)] (fun _=>0) (by kernel_rfl) (by kernel_rfl) (by kernel_rfl) rfl (by kernel_rfl) (by kernel_rfl) (Dt rfl) (fun i j h=>by revert h;exact Dt (p:=fun _=>_) rfl i) (Aj.none_ (Aj.none_ (Aj.none_ (Aj.none_ (Aj.none_ (Aj.none_ (Aj.some_ (C8.stays (by kernel_rfl)) (Aj.nil _)))))))) (fun hGS=>La ⟨?_,?_,?_,?_,?_,?_,?_⟩) ?_
  ·intro L a w' hL hsame hsz hJ AJ hcl
   have hb:=hJ.kept.toBelow (Nat.le_refl _) (by simp)
   have e0:a.eval (.tmp 2)=(.pointer (some ⟨g,0,none⟩)):=AY hsame (by kernel_rfl)
   have hx:=hJ.Ah ((show Box w3 g 43 (scA (.slice A (s.g.rows*s.g.AB) cp) s) from HB3.out)) (by simp)
   exact Step.val _ rfl rfl (AV rfl) (.agg (scA (.slice A (s.g.rows*s.g.AB) cp) s)) w' (fun ρ hρ=>Aq hx rfl ρ _ rfl ((hρ _).symm.trans e0)) (hJ.val hGS hcl hL rfl (Below.refl _ _) _ rfl)
  ·intro L a w' hL hsame hsz hJ AJ hcl
   refine BG hJ hGS hcl hL 5 (.int .i64 (m:Nat)) (.int .i64 (m:Nat)) (AY hsame (by kernel_rfl)) _ rfl rfl rfl rfl rfl fun ρ _ e0=>?_
   clear hJ hsame AJ hcl hsz
   go_simp
  ·intro L a w' hL hsame hsz hJ AJ hcl
   refine BG hJ hGS hcl hL 73 (.int .i64 (m:Nat)) (.int .i64 ((m:Int)-1)) (gslot hJ AJ 1 (by kernel_rfl) (by kernel_rfl) (by decide) rfl rfl) _ rfl rfl rfl rfl rfl fun ρ hc e0=>?_
   have ec0:=hc (.int .i64 1)
   clear hJ hsame AJ hcl hsz
   go_simp
   exact IntWalk.i64_in _ (by omega)
  ·intro L a w' hL hsame hsz hJ AJ hcl
   have hx:=hJ.Ah ((show Box w3 gE 34 #[.int .i64 kd,.int .i32 rn,.int .u8 pv,.int .u8 it,.int .u8 72,.slice Ae n c,.string tx] from HE3.out)) (by simp)
   have q0:w'.cell? ⟨gE,0,none⟩=some (.int .i64 kd):=hx.cell 0
   have q1:w'.cell? ⟨gE,1,none⟩=some (.int .i32 rn):=hx.cell 1
   have q2:w'.cell? ⟨gE,2,none⟩=some (.int .u8 pv):=hx.cell 2
   have q3:w'.cell? ⟨gE,3,none⟩=some (.int .u8 it):=hx.cell 3
   have q4:w'.cell? ⟨gE,4,none⟩=some (.int .u8 72):=hx.cell 4
   have q5:w'.cell? ⟨gE,5,none⟩=some (.slice Ae n c):=hx.cell 5
   have q6:w'.cell? ⟨gE,6,none⟩=some (.string tx):=hx.cell 6
   refine BG hJ hGS hcl hL 3 (.pointer (some ⟨gE,0,none⟩)) (.agg #[.int .i64 kd,.int .i32 rn,.int .u8 pv,.int .u8 it,.int .u8 72,.slice Ae n c,.string tx]) (AY hsame (by kernel_rfl)) _ rfl rfl rfl rfl rfl fun ρ _ e0=>?_
   clear hJ hsame AJ hcl hsz hx
   go_simp
  ·intro L a w' hL hsame hsz hJ AJ hcl
   have hb:=hJ.kept.toBelow (Nat.le_refl _) (by simp)
   have e0:a.eval (.tmp 75)=(.agg #[.int .i64 kd,.int .i32 rn,.int .u8 pv,.int .u8 it,.int .u8 72,.slice Ae n c,.string tx]):=AU (j:=3) (by kernel_rfl) (hJ.valOf (by decide) (AZ AJ 3 (by kernel_rfl)) rfl rfl)
   refine Step.call _ rfl rfl (AV rfl) 168 #[.agg #[.int .i64 kd,.int .i32 rn,.int .u8 pv,.int .u8 it,.int .u8 72,.slice Ae n c,.string tx],.int .i64 1] (fun ρ hρ=>?_) ?_
   ·skip
    rw [hρ] at e0
    have ec0:ρ (.const (.int .i64 1))=(.int .i64 1):=(hρ _).symm
    have ef:ρ (.func 168)=.func (.func 168) #[] #[] :=(hρ _).symm
    clear hJ hsame AJ hcl hρ hsz hb
    go_simp
   ·refine(HO.out _ hb).mono ?_
    rintro e w2 ⟨rfl,bb⟩
    exact⟨_,rfl,hJ.val hGS hcl hL rfl bb _ rfl⟩
  ·intro L a w' hL hsame hsz hJ AJ hcl
   refine BG hJ hGS hcl hL 76 (.int .i64 (k:Nat)) (.int .i64 ((k:Int)-1)) (gslot hJ AJ 4 (by kernel_rfl) (by kernel_rfl) (by decide) rfl rfl) _ rfl rfl rfl rfl rfl fun ρ hc e0=>?_
   have ec0:=hc (.int .i64 1)
   clear hJ hsame AJ hcl hsz
   go_simp
   exact IntWalk.i64_in _ (by omega)
  ·intro L a w' hL hsame hsz hJ AJ hcl
   have hb:=hJ.kept.toBelow (Nat.le_refl _) (by simp)
   have e0:a.eval (.tmp 72)=(.agg (scA (.slice A (s.g.rows*s.g.AB) cp) s)):=AU (j:=0) (by kernel_rfl) (hJ.valOf (by decide) (AZ AJ 0 (by kernel_rfl)) rfl rfl)
   have e1:a.eval (.tmp 74)=(.int .i64 ((m:Int)-1)):=AU (j:=2) (by kernel_rfl) (hJ.valOf (by decide) (AZ AJ 2 (by kernel_rfl)) rfl rfl)
   have e2:a.eval (.tmp 77)=(.int .i64 ((k:Int)-1)):=AU (j:=5) (by kernel_rfl) (hJ.valOf (by decide) (AZ AJ 5 (by kernel_rfl)) rfl rfl)
   refine Step.call _ rfl rfl (AV rfl) 171 #[.agg (scA (.slice A (s.g.rows*s.g.AB) cp) s),.int .i64 ((m:Int)-1),.int .i64 ((k:Int)-1)] (fun ρ hρ=>?_) ?_
   ·skip
    rw [hρ] at e0 e1 e2
    have ef:ρ (.func 171)=.func (.func 171) #[] #[] :=(hρ _).symm
    clear hJ hsame AJ hcl hρ hsz hb
    go_simp
   ·refine(GX.out _ hb).mono ?_
    rintro e w2 ⟨v,rfl,hi,bb⟩
    exact⟨_,rfl,hJ.pred hGS hcl hL rfl bb _ (D7 hi)⟩
  ·intro L u w' hF hall
   change wpList _ _ _ _ (Act.put (Act.put (Act.put (Act.put (Act.put (Act.put (Act.put (Act.put (Az _ u 0 _) (some 72) (u 0)) (some 73) (u 1)) (some 74) (u 2)) (some 75) (u 3)) (some 76) (u 4)) (some 77) (u 5)) (some 78) (u 6)) none (u 7)) _
   simp only [Az]
   obtain⟨A8,c8,f6,hi8⟩:=(show C8 t (u 6) w' from hF.Cy (j:=6) (by decide) (hall 6 (by decide)) rfl)
   have hkk:=hF.kept.toBelow (Nat.le_refl _) (by simp)
   clear hF
   generalize u 0=y0
   generalize u 1=y1
   generalize u 2=y2
   generalize u 3=y3
   generalize u 4=y4
   generalize u 5=y5
   generalize u 6=y6 at f6⊢
   generalize u 7=y7
   subst f6
   simp only [List.drop_succ_cons,List.drop_zero]
   have HR4:=hide (HR3.out.below hkk HR3.out.lt)
   have HW4:=hide (HW3.out.trans (hkk.mono HW3.out.size))
   clear HB3 HG3 HR3 HW3 HE3 hkk
   refine AQ (x:=.slice A8 (t.g.rows*t.g.AB) c8) (s:=t) HR4.out hsR rfl _ _ rfl (by((repeat(first | rw [ET] | rw [ER (by decide)]));rfl)) (by((repeat(first | rw [ET] | rw [ER (by decide)]));rw [Hr (by(repeat rw [Cm]);exact Nat.lt_of_lt_of_le (m:=82) (by decide) (Nat.le_refl 82))])) rfl ?_
   intro w8 hB8 hk8 hs8
   change Exit.then _ _ Exit.normal _ _
   go_simp
   go_step
   go_wp2_with fail
   exact BX rfl rfl rfl hB8 (hide hi8) HR4 HW4 hk8 Ai
 by_cases f102:fn=102
 ·as_aux_lemma=>
  subst f102
  have ht:SN.goS s ((SN.Bd l 0 1)-1) (SN.Bd l 1 1-1)=t:=HT0.out
  rw [EM.out,EK.out] at ht
  have GG:=hide (fun w' v' h=>(show Calls Tryz.prog 171 #[v',.int .i64 ((m:Int)-1),.int .i64 ((k:Int)-1)] w' (BD w' t) from ht▸Oz s v' ((m:Int)-1) ((k:Int)-1) w' HS.out (by omega) (by omega) h))
  have OK:=hide (fun w' (hb:Below w.heap.size w w')=>(show Calls Tryz.prog 168 #[.agg #[.int .i64 kd,.int .i32 rn,.int .u8 pv,.int .u8 it,.int .u8 102,.slice Ae n c,.string tx],.int .i64 1] w' (fun e w''=>e=.returned (.int .i64 (k:Nat))/\Below w'.heap.size w' w'') from Jv kd rn pv it 102 Ae n c B tx l 1 _ EK.out w' (HL.out.below (hb.mono hB)) (Nat.le_trans hB hb.size) HLB.out))
  clear HT0 ht
  have e4:w3.cell? ⟨gE,4,none⟩=some (.int .u8 102):=HE3.out.cell 4
  go_upto_region 22 with fail
  clear e4
  have HO:=hide (fun w' (hb:Below w3.heap.size w3 w')=>OK.out w' (HW3.out.trans (hb.mono HW3.out.size)))
  have GX:=hide (fun w' (hb:Below w3.heap.size w3 w')=>GG.out w' _ ⟨_,rfl,HG3.out.low hb⟩)
  clear OK GG
  go_simp
  refine Bh (n:=82) 7 [] (fun _=> #[]) [(0,0,0,0,0),(0,0,0,0,0),(0,0,0,0,0),(0,0,0,0,0),(0,0,0,0,0),(0,0,0,0,0),(1,0,0,0,0),(0,0,0,0,0)] (fun j=> [(.agg (scA (.slice A (s.g.rows*s.g.AB) cp) s)),(.int .i64 (m:Nat)),(.int .i64 ((m:Int)-1)),(.agg #[.int .i64 kd,.int .i32 rn,.int .u8 pv,.int .u8 it,.int .u8 102,.slice Ae n c,.string tx]),(.int .i64 (k:Nat)),(.int .i64 ((k:Int)-1)),undef,undef].getD j undef) [none,none,none,none,none,none,some (C8 t)] (fun _=>0) (by kernel_rfl) (by kernel_rfl) (by kernel_rfl) rfl (by kernel_rfl) (by kernel_rfl) (Dt rfl) (fun i j h=>by revert h;exact Dt (p:=fun _=>_) rfl i) (Aj.none_ (Aj.none_ (Aj.none_ (Aj.none_ (Aj.none_ (Aj.none_ (Aj.some_ (C8.stays (by kernel_rfl)) (Aj.nil _)))))))) (fun hGS=>La ⟨?_,?_,?_,?_,?_,?_,?_⟩) ?_
  ·intro L a w' hL hsame hsz hJ AJ hcl
   have hb:=hJ.kept.toBelow (Nat.le_refl _) (by simp)
   have e0:a.eval (.tmp 2)=(.pointer (some ⟨g,0,none⟩)):=AY hsame (by kernel_rfl)
   have hx:=hJ.Ah ((show Box w3 g 43 (scA (.slice A (s.g.rows*s.g.AB) cp) s) from HB3.out)) (by simp)
   exact Step.val _ rfl rfl (AV rfl) (.agg (scA (.slice A (s.g.rows*s.g.AB) cp) s)) w' (fun ρ hρ=>Aq hx rfl ρ _ rfl ((hρ _).symm.trans e0)) (hJ.val hGS hcl hL rfl (Below.refl _ _) _ rfl)
  ·intro L a w' hL hsame hsz hJ AJ hcl
   refine BG hJ hGS hcl hL 5 (.int .i64 (m:Nat)) (.int .i64 (m:Nat)) (AY hsame (by kernel_rfl)) _ rfl rfl rfl rfl rfl fun ρ _ e0=>?_
   clear hJ hsame AJ hcl hsz
   go_simp
  ·intro L a w' hL hsame hsz hJ AJ hcl
   refine BG hJ hGS hcl hL 73 (.int .i64 (m:Nat)) (.int .i64 ((m:Int)-1)) (gslot hJ AJ 1 (by kernel_rfl) (by kernel_rfl) (by decide) rfl rfl) _ rfl rfl rfl rfl rfl fun ρ hc e0=>?_
   have ec0:=hc (.int .i64 1)
   clear hJ hsame AJ hcl hsz
   go_simp
   exact IntWalk.i64_in _ (by omega)
  ·intro L a w' hL hsame hsz hJ AJ hcl
   have hx:=hJ.Ah ((show Box w3 gE 34 #[.int .i64 kd,.int .i32 rn,.int .u8 pv,.int .u8 it,.int .u8 102,.slice Ae n c,.string tx] from HE3.out)) (by simp)
   have q0:w'.cell? ⟨gE,0,none⟩=some (.int .i64 kd):=hx.cell 0
   have q1:w'.cell? ⟨gE,1,none⟩=some (.int .i32 rn):=hx.cell 1
   have q2:w'.cell? ⟨gE,2,none⟩=some (.int .u8 pv):=hx.cell 2
   have q3:w'.cell? ⟨gE,3,none⟩=some (.int .u8 it):=hx.cell 3
   have q4:w'.cell? ⟨gE,4,none⟩=some (.int .u8 102):=hx.cell 4
   have q5:w'.cell? ⟨gE,5,none⟩=some (.slice Ae n c):=hx.cell 5
   have q6:w'.cell? ⟨gE,6,none⟩=some (.string tx):=hx.cell 6
   refine BG hJ hGS hcl hL 3 (.pointer (some ⟨gE,0,none⟩)) (.agg #[.int .i64 kd,.int .i32 rn,.int .u8 pv,.int .u8 it,.int .u8 102,.slice Ae n c,.string tx]) (AY hsame (by kernel_rfl)) _ rfl rfl rfl rfl rfl fun ρ _ e0=>?_
   clear hJ hsame AJ hcl hsz hx
   go_simp
  ·intro L a w' hL hsame hsz hJ AJ hcl
   have hb:=hJ.kept.toBelow (Nat.le_refl _) (by simp)
   have e0:a.eval (.tmp 75)=(.agg #[.int .i64 kd,.int .i32 rn,.int .u8 pv,.int .u8 it,.int .u8 102,.slice Ae n c,.string tx]):=AU (j:=3) (by kernel_rfl) (hJ.valOf (by decide) (AZ AJ 3 (by kernel_rfl)) rfl rfl)
   refine Step.call _ rfl rfl (AV rfl) 168 #[.agg #[.int .i64 kd,.int .i32 rn,.int .u8 pv,.int .u8 it,.int .u8 102,.slice Ae n c,.string tx],.int .i64 1] (fun ρ hρ=>?_) ?_
   ·skip
    rw [hρ] at e0
    have ec0:ρ (.const (.int .i64 1))=(.int .i64 1):=(hρ _).symm
    have ef:ρ (.func 168)=.func (.func 168) #[] #[] :=(hρ _).symm
    clear hJ hsame AJ hcl hρ hsz hb
    go_simp
   ·refine(HO.out _ hb).mono ?_
    rintro e w2 ⟨rfl,bb⟩
    exact⟨_,rfl,hJ.val hGS hcl hL rfl bb _ rfl⟩
  ·intro L a w' hL hsame hsz hJ AJ hcl
   refine BG hJ hGS hcl hL 76 (.int .i64 (k:Nat)) (.int .i64 ((k:Int)-1)) (gslot hJ AJ 4 (by kernel_rfl) (by kernel_rfl) (by decide) rfl rfl) _ rfl rfl rfl rfl rfl fun ρ hc e0=>?_
   have ec0:=hc (.int .i64 1)
   clear hJ hsame AJ hcl hsz
   go_simp
   exact IntWalk.i64_in _ (by omega)
  ·intro L a w' hL hsame hsz hJ AJ hcl
   have hb:=hJ.kept.toBelow (Nat.le_refl _) (by simp)
   have e0:a.eval (.tmp 72)=(.agg (scA (.slice A (s.g.rows*s.g.AB) cp) s)):=AU (j:=0) (by kernel_rfl) (hJ.valOf (by decide) (AZ AJ 0 (by kernel_rfl)) rfl rfl)
   have e1:a.eval (.tmp 74)=(.int .i64 ((m:Int)-1)):=AU (j:=2) (by kernel_rfl) (hJ.valOf (by decide) (AZ AJ 2 (by kernel_rfl)) rfl rfl)
   have e2:a.eval (.tmp 77)=(.int .i64 ((k:Int)-1)):=AU (j:=5) (by kernel_rfl) (hJ.valOf (by decide) (AZ AJ 5 (by kernel_rfl)) rfl rfl)
   refine Step.call _ rfl rfl (AV rfl) 171 #[.agg (scA (.slice A (s.g.rows*s.g.AB) cp) s),.int .i64 ((m:Int)-1),.int .i64 ((k:Int)-1)] (fun ρ hρ=>?_) ?_
   ·skip
    rw [hρ] at e0 e1 e2
    have ef:ρ (.func 171)=.func (.func 171) #[] #[] :=(hρ _).symm
    clear hJ hsame AJ hcl hρ hsz hb
    go_simp
   ·refine(GX.out _ hb).mono ?_
    rintro e w2 ⟨v,rfl,hi,bb⟩
    exact⟨_,rfl,hJ.pred hGS hcl hL rfl bb _ (D7 hi)⟩
  ·intro L u w' hF hall
   change wpList _ _ _ _ (Act.put (Act.put (Act.put (Act.put (Act.put (Act.put (Act.put (Act.put (Az _ u 0 _) (some 72) (u 0)) (some 73) (u 1)) (some 74) (u 2)) (some 75) (u 3)) (some 76) (u 4)) (some 77) (u 5)) (some 78) (u 6)) none (u 7)) _
   simp only [Az]
   obtain⟨A8,c8,f6,hi8⟩:=(show C8 t (u 6) w' from hF.Cy (j:=6) (by decide) (hall 6 (by decide)) rfl)
   have hkk:=hF.kept.toBelow (Nat.le_refl _) (by simp)
   clear hF
   generalize u 0=y0
   generalize u 1=y1
   generalize u 2=y2
   generalize u 3=y3
   generalize u 4=y4
   generalize u 5=y5
   generalize u 6=y6 at f6⊢
   generalize u 7=y7
   subst f6
   simp only [List.drop_succ_cons,List.drop_zero]
   have HR4:=hide (HR3.out.below hkk HR3.out.lt)
   have HW4:=hide (HW3.out.trans (hkk.mono HW3.out.size))
   clear HB3 HG3 HR3 HW3 HE3 hkk
   refine AQ (x:=.slice A8 (t.g.rows*t.g.AB) c8) (s:=t) HR4.out hsR rfl _ _ rfl (by((repeat(first | rw [ET] | rw [ER (by decide)]));rfl)) (by((repeat(first | rw [ET] | rw [ER (by decide)]));rw [Hr (by(repeat rw [Cm]);exact Nat.lt_of_lt_of_le (m:=82) (by decide) (Nat.le_refl 82))])) rfl ?_
   intro w8 hB8 hk8 hs8
   change Exit.then _ _ Exit.normal _ _
   go_simp
   go_step
   go_wp2_with fail
   exact BX rfl rfl rfl hB8 (hide hi8) HR4 HW4 hk8 Ai
 have q65:(fn==65)=false:=by simp;omega
 have q66:(fn==66)=false:=by simp;omega
 have q67:(fn==67)=false:=by simp;omega
 have q68:(fn==68)=false:=by simp;omega
 have q69:(fn==69)=false:=by simp;omega
 have q70:(fn==70)=false:=by simp;omega
 have q71:(fn==71)=false:=by simp;omega
 have q96:(fn==96)=false:=by simp;omega
 have q100:(fn==100)=false:=by simp;omega
 have q72:(fn==72)=false:=by simp;omega
 have q102:(fn==102)=false:=by simp;omega
 have ht:SN.Fu s fn l=t:=by
  have:=HT0.out
  unfold SN.MF at this
  rw [if_neg (by omega),if_neg (by omega),if_neg (by omega),if_neg (by omega),if_neg (by omega),if_neg (by omega),if_neg (by omega),if_neg (by omega),if_neg (by omega)] at this
  exact this
 have AT:=hide (fun w' v' (hb:Below w.heap.size w w') h=>(show Calls Tryz.prog 172 #[v',.agg #[.int .i64 kd,.int .i32 rn,.int .u8 pv,.int .u8 it,.int .u8 fn,.slice Ae n c,.string tx]] w' (BD w' t) from Xe s t v' kd rn pv it fn Ae n c B tx l w' HS.out (HL.out.below (hb.mono hB)) (Nat.le_trans hB hb.size) hn hnc HLB.out (HF.out.keep hb) ht h))
 clear HT0 ht f65 f66 f67 f68 f69 f70 f71 f96 f100 f72 f102
 obtain⟨e0,e1,e2,e3,e4,e5,e6⟩:=HE3.out.Bo
 go_wp2_with (refine AX HB3.out rfl _ rfl rfl ?_)
 refine(AT.out _ _ HW3.out ⟨_,rfl,HG3.out⟩).mono (Al HR3 HW3 fun A7 c7 w7 HR7 HW7 HG7=>?_)
 clear e0 e1 e2 e3 e4 e5 e6
 clear HB3 HR3 HW3 HG3 HE3
 go_wp2_with (refine AQ HR7.out hsR rfl _ _ rfl rfl rfl rfl ?_;intro w8 hB8 hk8 hs8)
 exact BX rfl rfl rfl hB8 HG7 HR7 HW7 hk8 Ai
theorem jO (s t:SN.Sc) (v:Value) (kd rn pv it fn:Int) (Ae:Option Addr) (n c B:Nat) (tx:ByteArray) (l:List Int) (w:World) (hs:SN.Ac s) (hl:Seen w B Ae n (l.map (Value.int .i64))) (hB:B<=w.heap.size) (hn:n<=100) (hnc:n<=c) (hlb: ∀x∈l, -1<=x/\x<=65535) (hi:it≠0) (ht:s=t) (h:IsS w s v):Calls Tryz.prog 102 #[v,.agg #[.int .i64 kd,.int .i32 rn,.int .u8 pv,.int .u8 it,.int .u8 fn,.slice Ae n c,.string tx]] w (BD w t):=by
 obtain⟨x,rfl,hg⟩:=h
 obtain⟨A,cp,rfl⟩:=Ad hg
 have HG:=hide hg
 have hgr:=hs.g.2.1
 have hgc:=hs.g.2.2.2.1
 have hR1:=hs.g.1
 have hK1:=hs.g.2.2.1
 have hrow:=hs.row
 have CJ:=hs.col
 have htop:=SN.DZ hs
 have JQ:=hs.bot
 have q0:(it !=0)=true:=by simp;omega
 subst ht
 clear hs hg hl hlb
 go_enter Tryz.func102,Tryz.ntmps102
 go_upto_region 1 with (refine Dw HG _ rfl rfl rfl _ rfl rfl (fun _=>rfl) rfl rfl ?_;intro g gE gR w2 csR hsR HB2 HE2 HW2 HR2 HG2 hne FM FN hg1 Ai)
 clear HG
 obtain⟨e0,e1,e2,e3,e4,e5,e6⟩:=HE2.out.Bo
 go_wp2_with (first | (refine AX HB2.out rfl _ rfl rfl ?_) | (refine AQ HR2.out hsR rfl _ _ rfl rfl rfl rfl ?_;intro w8 hB8 hk8 hs8))
 exact BX rfl rfl rfl hB8 HG2 HR2 HW2 hk8 Ai
theorem nD (s t:SN.Sc) (v:Value) (kd rn fn:Int) (Ae:Option Addr) (n c B:Nat) (tx:ByteArray) (l:List Int) (w:World) (hs:SN.Ac s) (hl:Seen w B Ae n (l.map (Value.int .i64))) (hB:B<=w.heap.size) (hn:n<=100) (hnc:n<=c) (hlb: ∀x∈l, -1<=x/\x<=65535) (hF:Df w) (ht:(SN.MF s fn l).getD (SN.Fu s fn l)=t) (h:IsS w s v):Calls Tryz.prog 102 #[v,.agg #[.int .i64 kd,.int .i32 rn,.int .u8 0,.int .u8 0,.int .u8 fn,.slice Ae n c,.string tx]] w (BD w t):=by
 obtain⟨x,rfl,hg⟩:=h
 obtain⟨A,cp,rfl⟩:=Ad hg
 have HG:=hide hg
 have hgr:=hs.g.2.1
 have hgc:=hs.g.2.2.2.1
 have hR1:=hs.g.1
 have hK1:=hs.g.2.2.1
 have hrow:=hs.row
 have CJ:=hs.col
 have htop:=SN.DZ hs
 have JQ:=hs.bot
 have AT:=hide (fun w' v' (hb:Below w.heap.size w w') h=>(show Calls Tryz.prog 137 #[v',.agg #[.int .i64 kd,.int .i32 rn,.int .u8 0,.int .u8 0,.int .u8 fn,.slice Ae n c,.string tx]] w' (BD w' t) from jN s t v' kd rn 0 0 fn Ae n c B tx l w' hs (hl.below (hb.mono hB)) (Nat.le_trans hB hb.size) hn hnc hlb (hF.keep hb) ht h))
 clear ht hs hg hl hlb
 go_enter Tryz.func102,Tryz.ntmps102
 go_upto_region 1 with (refine Dw HG _ rfl rfl rfl _ rfl rfl (fun _=>rfl) rfl rfl ?_;intro g gE gR w2 csR hsR HB2 HE2 HW2 HR2 HG2 hne FM FN hg1 Ai)
 clear HG
 obtain⟨e0,e1,e2,e3,e4,e5,e6⟩:=HE2.out.Bo
 go_wp2_with (refine AX HB2.out rfl _ rfl rfl ?_)
 refine(AT.out _ _ HW2.out ⟨_,rfl,HG2.out⟩).mono (Al HR2 HW2 fun A7 c7 w7 HR7 HW7 HG7=>?_)
 clear e0 e1 e2 e3 e4 e5 e6
 clear HB2 HR2 HW2 HG2 HE2
 go_wp2_with (refine AQ HR7.out hsR rfl _ _ rfl rfl rfl rfl ?_;intro w8 hB8 hk8 hs8)
 exact BX rfl rfl rfl hB8 HG7 HR7 HW7 hk8 Ai
theorem aB (s t:SN.Sc) (v:Value) (kd rn:Int) (Ae:Option Addr) (n c B:Nat) (tx:ByteArray) (l:List Int) (w:World) (hs:SN.Ac s) (hl:Seen w B Ae n (l.map (Value.int .i64))) (hB:B<=w.heap.size) (hn:n<=100) (hnc:n<=c) (hlb: ∀x∈l, -1<=x/\x<=65535) (ht:SN.Ct s true l=t) (h:IsS w s v):Calls Tryz.prog 102 #[v,.agg #[.int .i64 kd,.int .i32 rn,.int .u8 63,.int .u8 0,.int .u8 104,.slice Ae n c,.string tx]] w (BD w t):=by
 obtain⟨x,rfl,hg⟩:=h
 obtain⟨A,cp,rfl⟩:=Ad hg
 have HG:=hide hg
 have hgr:=hs.g.2.1
 have hgc:=hs.g.2.2.2.1
 have hR1:=hs.g.1
 have hK1:=hs.g.2.2.1
 have hrow:=hs.row
 have CJ:=hs.col
 have htop:=SN.DZ hs
 have JQ:=hs.bot
 have AT:=hide (fun w' v' (hb:Below w.heap.size w w') h=>(show Calls Tryz.prog 138 #[v',.bool true,.slice Ae n c] w' (BD w' t) from ht▸OH s v' true Ae n c B l w' hs (hl.below (hb.mono hB)) (Nat.le_trans hB hb.size) hn h))
 clear ht hs hg hl hlb
 go_enter Tryz.func102,Tryz.ntmps102
 go_upto_region 1 with (refine Dw HG _ rfl rfl rfl _ rfl rfl (fun _=>rfl) rfl rfl ?_;intro g gE gR w2 csR hsR HB2 HE2 HW2 HR2 HG2 hne FM FN hg1 Ai)
 clear HG
 obtain⟨e0,e1,e2,e3,e4,e5,e6⟩:=HE2.out.Bo
 go_wp2_with (refine AX HB2.out rfl _ rfl rfl ?_)
 refine(AT.out _ _ HW2.out ⟨_,rfl,HG2.out⟩).mono (Al HR2 HW2 fun A7 c7 w7 HR7 HW7 HG7=>?_)
 clear e0 e1 e2 e3 e4 e5 e6
 clear HB2 HR2 HW2 HG2 HE2
 go_wp2_with (refine AQ HR7.out hsR rfl _ _ rfl rfl rfl rfl ?_;intro w8 hB8 hk8 hs8)
 exact BX rfl rfl rfl hB8 HG7 HR7 HW7 hk8 Ai
theorem aC (s t:SN.Sc) (v:Value) (kd rn:Int) (Ae:Option Addr) (n c B:Nat) (tx:ByteArray) (l:List Int) (w:World) (hs:SN.Ac s) (hl:Seen w B Ae n (l.map (Value.int .i64))) (hB:B<=w.heap.size) (hn:n<=100) (hnc:n<=c) (hlb: ∀x∈l, -1<=x/\x<=65535) (ht:SN.Ct s false l=t) (h:IsS w s v):Calls Tryz.prog 102 #[v,.agg #[.int .i64 kd,.int .i32 rn,.int .u8 63,.int .u8 0,.int .u8 108,.slice Ae n c,.string tx]] w (BD w t):=by
 obtain⟨x,rfl,hg⟩:=h
 obtain⟨A,cp,rfl⟩:=Ad hg
 have HG:=hide hg
 have hgr:=hs.g.2.1
 have hgc:=hs.g.2.2.2.1
 have hR1:=hs.g.1
 have hK1:=hs.g.2.2.1
 have hrow:=hs.row
 have CJ:=hs.col
 have htop:=SN.DZ hs
 have JQ:=hs.bot
 have AT:=hide (fun w' v' (hb:Below w.heap.size w w') h=>(show Calls Tryz.prog 138 #[v',.bool false,.slice Ae n c] w' (BD w' t) from ht▸OH s v' false Ae n c B l w' hs (hl.below (hb.mono hB)) (Nat.le_trans hB hb.size) hn h))
 clear ht hs hg hl hlb
 go_enter Tryz.func102,Tryz.ntmps102
 go_upto_region 1 with (refine Dw HG _ rfl rfl rfl _ rfl rfl (fun _=>rfl) rfl rfl ?_;intro g gE gR w2 csR hsR HB2 HE2 HW2 HR2 HG2 hne FM FN hg1 Ai)
 clear HG
 obtain⟨e0,e1,e2,e3,e4,e5,e6⟩:=HE2.out.Bo
 go_wp2_with (refine AX HB2.out rfl _ rfl rfl ?_)
 refine(AT.out _ _ HW2.out ⟨_,rfl,HG2.out⟩).mono (Al HR2 HW2 fun A7 c7 w7 HR7 HW7 HG7=>?_)
 clear e0 e1 e2 e3 e4 e5 e6
 clear HB2 HR2 HW2 HG2 HE2
 go_wp2_with (refine AQ HR7.out hsR rfl _ _ rfl rfl rfl rfl ?_;intro w8 hB8 hk8 hs8)
 exact BX rfl rfl rfl hB8 HG7 HR7 HW7 hk8 Ai
theorem nE (s t:SN.Sc) (v:Value) (kd rn fn:Int) (Ae:Option Addr) (n c B:Nat) (tx:ByteArray) (l:List Int) (w:World) (hs:SN.Ac s) (hl:Seen w B Ae n (l.map (Value.int .i64))) (hB:B<=w.heap.size) (hn:n<=100) (hnc:n<=c) (hlb: ∀x∈l, -1<=x/\x<=65535) (hf:fn≠104/\fn≠108) (ht:s=t) (h:IsS w s v):Calls Tryz.prog 102 #[v,.agg #[.int .i64 kd,.int .i32 rn,.int .u8 63,.int .u8 0,.int .u8 fn,.slice Ae n c,.string tx]] w (BD w t):=by
 obtain⟨x,rfl,hg⟩:=h
 obtain⟨A,cp,rfl⟩:=Ad hg
 have HG:=hide hg
 have hgr:=hs.g.2.1
 have hgc:=hs.g.2.2.2.1
 have hR1:=hs.g.1
 have hK1:=hs.g.2.2.1
 have hrow:=hs.row
 have CJ:=hs.col
 have htop:=SN.DZ hs
 have JQ:=hs.bot
 have q1:(fn==104)=false:=by simp;omega
 have q2:(fn==108)=false:=by simp;omega
 clear hf
 subst ht
 clear hs hg hl hlb
 go_enter Tryz.func102,Tryz.ntmps102
 go_upto_region 1 with (refine Dw HG _ rfl rfl rfl _ rfl rfl (fun _=>rfl) rfl rfl ?_;intro g gE gR w2 csR hsR HB2 HE2 HW2 HR2 HG2 hne FM FN hg1 Ai)
 clear HG
 obtain⟨e0,e1,e2,e3,e4,e5,e6⟩:=HE2.out.Bo
 go_wp2_with (first | (refine AX HB2.out rfl _ rfl rfl ?_) | (refine AQ HR2.out hsR rfl _ _ rfl rfl rfl rfl ?_;intro w8 hB8 hk8 hs8))
 exact BX rfl rfl rfl hB8 HG2 HR2 HW2 hk8 Ai
theorem jP (s t:SN.Sc) (v:Value) (kd rn pv fn:Int) (Ae:Option Addr) (n c B:Nat) (tx:ByteArray) (l:List Int) (w:World) (hs:SN.Ac s) (hl:Seen w B Ae n (l.map (Value.int .i64))) (hB:B<=w.heap.size) (hn:n<=100) (hnc:n<=c) (hlb: ∀x∈l, -1<=x/\x<=65535) (hp:pv≠0/\pv≠63) (ht:s=t) (h:IsS w s v):Calls Tryz.prog 102 #[v,.agg #[.int .i64 kd,.int .i32 rn,.int .u8 pv,.int .u8 0,.int .u8 fn,.slice Ae n c,.string tx]] w (BD w t):=by
 obtain⟨x,rfl,hg⟩:=h
 obtain⟨A,cp,rfl⟩:=Ad hg
 have HG:=hide hg
 have hgr:=hs.g.2.1
 have hgc:=hs.g.2.2.2.1
 have hR1:=hs.g.1
 have hK1:=hs.g.2.2.1
 have hrow:=hs.row
 have CJ:=hs.col
 have htop:=SN.DZ hs
 have JQ:=hs.bot
 have q1:(pv==0)=false:=by simp;omega
 have q2:(pv==63)=false:=by simp;omega
 clear hp
 subst ht
 clear hs hg hl hlb
 go_enter Tryz.func102,Tryz.ntmps102
 go_upto_region 1 with (refine Dw HG _ rfl rfl rfl _ rfl rfl (fun _=>rfl) rfl rfl ?_;intro g gE gR w2 csR hsR HB2 HE2 HW2 HR2 HG2 hne FM FN hg1 Ai)
 clear HG
 obtain⟨e0,e1,e2,e3,e4,e5,e6⟩:=HE2.out.Bo
 go_wp2_with (first | (refine AX HB2.out rfl _ rfl rfl ?_) | (refine AQ HR2.out hsR rfl _ _ rfl rfl rfl rfl ?_;intro w8 hB8 hk8 hs8))
 exact BX rfl rfl rfl hB8 HG2 HR2 HW2 hk8 Ai
theorem jQ (s:SN.Sc) (v:Value) (kd rn pv it fn:Int) (Ae:Option Addr) (n c B:Nat) (tx:ByteArray) (l:List Int) (w:World) (hs:SN.Ac s) (hl:Seen w B Ae n (l.map (Value.int .i64))) (hB:B<=w.heap.size) (hn:n<=100) (hnc:n<=c) (hlb: ∀x∈l, -1<=x/\x<=65535) (hF:Df w) (h:IsS w s v):Calls Tryz.prog 102 #[v,.agg #[.int .i64 kd,.int .i32 rn,.int .u8 pv,.int .u8 it,.int .u8 fn,.slice Ae n c,.string tx]] w (BD w (SN.Vz s pv it fn l)):=by
 unfold SN.Vz
 by_cases hi:it=0
 ·subst hi
  by_cases hp:pv=0
  ·subst hp
   rw [if_neg (by omega),if_neg (by omega)]
   exact nD s _ v kd rn fn Ae n c B tx l w hs hl hB hn hnc hlb hF rfl h
  by_cases hq:pv=63
  ·subst hq
   rw [if_neg (by omega),if_pos rfl]
   by_cases h1:fn=104
   ·subst h1
    rw [if_pos rfl]
    exact aB s _ v kd rn Ae n c B tx l w hs hl hB hn hnc hlb rfl h
   by_cases h2:fn=108
   ·subst h2
    rw [if_neg (by omega),if_pos rfl]
    exact aC s _ v kd rn Ae n c B tx l w hs hl hB hn hnc hlb rfl h
   rw [if_neg h1,if_neg h2]
   exact nE s _ v kd rn fn Ae n c B tx l w hs hl hB hn hnc hlb ⟨h1,h2⟩ rfl h
  rw [if_pos (.inr ⟨hp,hq⟩)]
  exact jP s _ v kd rn pv fn Ae n c B tx l w hs hl hB hn hnc hlb ⟨hp,hq⟩ rfl h
 ·rw [if_pos (.inl hi)]
  exact jO s _ v kd rn pv it fn Ae n c B tx l w hs hl hB hn hnc hlb hi rfl h
end Go.Proofs.YtoaabebgmdbjeaaGreatDoor
