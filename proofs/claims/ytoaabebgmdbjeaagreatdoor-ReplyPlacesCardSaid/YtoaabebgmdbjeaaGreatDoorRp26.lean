/- A part of the proof: SourceMove, SourceUse, EraseSpec, ScrStore. -/
import Derived.Test.YtoaabebgmdbjeaaGreatDoorRp25
set_option maxRecDepth 100000
set_option maxHeartbeats 16000000
set_option linter.unusedVariables false
namespace Go.Proofs.YtoaabebgmdbjeaaGreatDoor
open Go Go.RowKit
theorem SN.Kj {s:SN.Sc} (hs:SN.Ab s) (r:Int):SN.atS (SN.atS s r s.col) (SN.atS s r s.col).row 0=SN.atS s r 0:=by
 have e1:SN.pin ((SN.pin r s.g.rows:Nat):Int) s.g.rows=SN.pin r s.g.rows:=SN.OP (SN.Lm _ hs.g.1)
 show SN.Sc.u5 (((SN.atS s r s.col).u3 (SN.pin ((SN.pin r s.g.rows:Nat):Int) s.g.rows)).u4 (SN.pin 0 s.g.AB)) false=SN.atS s r 0
 rw [e1]
 rfl
theorem dX (s t:SN.Sc) (v:Value) (kd rn pv it fn:Int) (Ae:Option Addr) (n c B:Nat) (tx:ByteArray) (l:List Int) (w:World) (hs:SN.Ab s) (hl:Seen w B Ae n (l.map (Value.int .i64))) (hB:B<=w.heap.size) (hn:n<=100) (hnc:n<=c) (hlb: ∀x∈l, -1<=x/\x<=65535) (hF:DL w) (ht:(SN.ML s fn l).getD (SN.F6 s fn l)=t) (h:IsS w s v):Calls Tryz.prog 137 #[v,.agg #[.int .i64 kd,.int .i32 rn,.int .u8 pv,.int .u8 it,.int .u8 fn,.slice Ae n c,.string tx]] w (Au w t):=by
 obtain⟨x,rfl,hg⟩:=h
 obtain⟨A,cp,rfl⟩:=Ac hg
 have HG:=hide hg
 have hgr:=hs.g.2.1
 have hgc:=hs.g.2.2.2.1
 have hR1:=hs.g.1
 have hK1:=hs.g.2.2.1
 have hrow:=hs.row
 have Bv:=hs.col
 have htop:=SN.C9 hs
 have JK:=hs.bot
 have a0:=SN.K6 hlb 0
 have a1:=SN.K6 hlb 1
 obtain⟨m,hm⟩: ∃m:Nat,SN.BX l 0 1=(m:Int):=⟨(SN.BX l 0 1).toNat,by omega⟩
 obtain⟨k,hk⟩: ∃k:Nat,SN.BX l 1 1=(k:Int):=⟨(SN.BX l 1 1).toNat,by omega⟩
 have hm1:1<=m/\m<=65535:=by omega
 have hk1:1<=k/\k<=65535:=by omega
 have HT0:=hide ht
 have EM:=hide hm
 have EK:=hide hk
 have HS:=hide hs
 have HL:=hide hl
 have HLB:=hide hlb
 have HF:=hide hF
 have NM:=hide (fun w' (hb:Below w.heap.size w w')=>(show Calls Tryz.prog 168 #[.agg #[.int .i64 kd,.int .i32 rn,.int .u8 pv,.int .u8 it,.int .u8 fn,.slice Ae n c,.string tx],.int .i64 0] w' (fun e w''=>e=.returned (.int .i64 (m:Nat))/\Below w'.heap.size w' w'') from Js kd rn pv it fn Ae n c B tx l 0 _ hm w' (hl.below (hb.mono hB)) (Nat.le_trans hB hb.size) hlb))
 clear ht hs hg hl hlb hm hk hF a0 a1
 go_enter Tryz.func137,Tryz.ntmps137
 go_upto_region 1 with (refine Dk HG _ rfl rfl rfl _ rfl rfl (fun _=>rfl) rfl rfl ?_;intro g gE gR w2 csR hsR HB2 HE2 HW2 HR2 HG2 hne FU FV hg1 Ai)
 clear HG
 obtain⟨e0,e1,e2,e3,e4,e5,e6⟩:=HE2.out.Bg
 go_wp2_with fail
 refine(NM.out _ HW2.out).mono ?_
 rintro e w3 ⟨rfl,b3⟩
 obtain⟨HB3,HR3,HW3,HG3⟩:=Jl b3 HB2 HR2 HW2 HG2
 have HE3:=hide (HE2.out.below b3 HE2.out.lt)
 clear e0 e1 e2 e3 e4 e5 e6
 clear HB2 HR2 HW2 HG2 HE2 b3
 clear NM
 go_upto_region 2 with fail
 by_cases f65:fn=65
 ·as_aux_lemma=>
  subst f65
  have ht:SN.upS s (SN.BX l 0 1).toNat=t:=HT0.out
  rw [EM.out,Int.toNat_natCast] at ht
  have AT:=hide (fun w' v' h=>(show Calls Tryz.prog 169 #[v',.int .i64 (m:Nat)] w' (Au w' t) from ht▸Yg s v' m w' hm1.2 HS.out h))
  clear HT0 ht
  have e4:w3.cell? ⟨gE,4,none⟩=some (.int .u8 65):=HE3.out.cell 4
  go_wp2_with (refine AX HB3.out rfl _ rfl rfl ?_)
  refine(AT.out _ _ ⟨_,rfl,HG3.out⟩).mono (Al HR3 HW3 fun A7 c7 w7 HR7 HW7 HG7=>?_)
  clear e4
  clear HB3 HR3 HW3 HG3 HE3
  go_wp2_with (refine AV HR7.out hsR rfl _ _ rfl rfl rfl rfl ?_;intro w8 hB8 hk8 hs8)
  exact BL rfl rfl rfl hB8 HG7 HR7 HW7 hk8 Ai
 by_cases f66:fn=66
 ·as_aux_lemma=>
  subst f66
  have ht:SN.I4 s (SN.BX l 0 1).toNat=t:=HT0.out
  rw [EM.out,Int.toNat_natCast] at ht
  have AT:=hide (fun w' v' h=>(show Calls Tryz.prog 170 #[v',.int .i64 (m:Nat)] w' (Au w' t) from ht▸QW s v' m w' hm1.2 HS.out h))
  clear HT0 ht
  have e4:w3.cell? ⟨gE,4,none⟩=some (.int .u8 66):=HE3.out.cell 4
  go_wp2_with (refine AX HB3.out rfl _ rfl rfl ?_)
  refine(AT.out _ _ ⟨_,rfl,HG3.out⟩).mono (Al HR3 HW3 fun A7 c7 w7 HR7 HW7 HG7=>?_)
  clear e4
  clear HB3 HR3 HW3 HG3 HE3
  go_wp2_with (refine AV HR7.out hsR rfl _ _ rfl rfl rfl rfl ?_;intro w8 hB8 hk8 hs8)
  exact BL rfl rfl rfl hB8 HG7 HR7 HW7 hk8 Ai
 by_cases f67:fn=67
 ·as_aux_lemma=>
  subst f67
  have ht:SN.atS s s.row ((s.col:Int)+(SN.BX l 0 1))=t:=HT0.out
  rw [EM.out] at ht
  have AT:=hide (fun w' v' h=>(show Calls Tryz.prog 109 #[v',.int .i64 (s.row:Nat),.int .i64 ((s.col:Int)+m)] w' (Au w' t) from ht▸FR s v' (s.row:Nat) ((s.col:Int)+m) w' HS.out (by omega) (by omega) h))
  clear HT0 ht
  have e4:w3.cell? ⟨gE,4,none⟩=some (.int .u8 67):=HE3.out.cell 4
  have k3:=HB3.out.c3
  have k4:=HB3.out.c4
  go_wp2_with (refine AX HB3.out rfl _ rfl rfl ?_)
  refine(AT.out _ _ ⟨_,rfl,HG3.out⟩).mono (Al HR3 HW3 fun A7 c7 w7 HR7 HW7 HG7=>?_)
  clear e4 k3 k4
  clear HB3 HR3 HW3 HG3 HE3
  go_wp2_with (refine AV HR7.out hsR rfl _ _ rfl rfl rfl rfl ?_;intro w8 hB8 hk8 hs8)
  exact BL rfl rfl rfl hB8 HG7 HR7 HW7 hk8 Ai
 by_cases f68:fn=68
 ·as_aux_lemma=>
  subst f68
  have ht:SN.atS s s.row ((s.col:Int)-(SN.BX l 0 1))=t:=HT0.out
  rw [EM.out] at ht
  have AT:=hide (fun w' v' h=>(show Calls Tryz.prog 109 #[v',.int .i64 (s.row:Nat),.int .i64 ((s.col:Int)-m)] w' (Au w' t) from ht▸FR s v' (s.row:Nat) ((s.col:Int)-m) w' HS.out (by omega) (by omega) h))
  clear HT0 ht
  have e4:w3.cell? ⟨gE,4,none⟩=some (.int .u8 68):=HE3.out.cell 4
  have k3:=HB3.out.c3
  have k4:=HB3.out.c4
  go_wp2_with (refine AX HB3.out rfl _ rfl rfl ?_)
  refine(AT.out _ _ ⟨_,rfl,HG3.out⟩).mono (Al HR3 HW3 fun A7 c7 w7 HR7 HW7 HG7=>?_)
  clear e4 k3 k4
  clear HB3 HR3 HW3 HG3 HE3
  go_wp2_with (refine AV HR7.out hsR rfl _ _ rfl rfl rfl rfl ?_;intro w8 hB8 hk8 hs8)
  exact BL rfl rfl rfl hB8 HG7 HR7 HW7 hk8 Ai
 by_cases f69:fn=69
 ·as_aux_lemma=>
  subst f69
  have ht:SN.atS s (SN.UJ s (SN.BX l 0 1).toNat) 0=t:=HT0.out
  rw [EM.out,Int.toNat_natCast] at ht
  have A1:=hide (fun w' v' h=>QW s v' m w' hm1.2 HS.out h)
  have hRT:SN.Ab (SN.I4 s m):=SN.DV HS.out _ _
  have hTT:SN.atS (SN.I4 s m) (SN.I4 s m).row 0=t:=by
   rw [<- ht]
   exact SN.Kj HS.out _
  generalize SN.I4 s m=T at A1 hRT hTT
  have AT:=hide (fun w' v' h=>Fb T t v' w' hRT hTT h)
  clear HT0 ht hRT hTT
  have e4:w3.cell? ⟨gE,4,none⟩=some (.int .u8 69):=HE3.out.cell 4
  go_wp2_with (refine AX HB3.out rfl _ rfl rfl ?_)
  refine(A1.out _ _ ⟨_,rfl,HG3.out⟩).mono ?_
  rintro e w4 ⟨v4,rfl,hi4,hb4⟩
  have HR4:=hide (HR3.out.below hb4 HR3.out.lt)
  have HW4:=hide (HW3.out.trans (hb4.mono HW3.out.size))
  have HI4:=hide hi4
  clear hi4 hb4 HB3 HR3 HW3 HG3 HE3 A1 e4
  go_wp2_with fail
  refine(AT.out _ _ HI4.out).mono (Al HR4 HW4 fun A7 c7 w7 HR7 HW7 HG7=>?_)
  clear HR4 HW4 HI4
  go_wp2_with (refine AV HR7.out hsR rfl _ _ rfl rfl rfl rfl ?_;intro w8 hB8 hk8 hs8)
  exact BL rfl rfl rfl hB8 HG7 HR7 HW7 hk8 Ai
 by_cases f70:fn=70
 ·as_aux_lemma=>
  subst f70
  have ht:SN.atS s (SN.upR s (SN.BX l 0 1).toNat) 0=t:=HT0.out
  rw [EM.out,Int.toNat_natCast] at ht
  have A1:=hide (fun w' v' h=>Yg s v' m w' hm1.2 HS.out h)
  have hRT:SN.Ab (SN.upS s m):=SN.DV HS.out _ _
  have hTT:SN.atS (SN.upS s m) (SN.upS s m).row 0=t:=by
   rw [<- ht]
   exact SN.Kj HS.out _
  generalize SN.upS s m=T at A1 hRT hTT
  have AT:=hide (fun w' v' h=>Fb T t v' w' hRT hTT h)
  clear HT0 ht hRT hTT
  have e4:w3.cell? ⟨gE,4,none⟩=some (.int .u8 70):=HE3.out.cell 4
  go_wp2_with (refine AX HB3.out rfl _ rfl rfl ?_)
  refine(A1.out _ _ ⟨_,rfl,HG3.out⟩).mono ?_
  rintro e w4 ⟨v4,rfl,hi4,hb4⟩
  have HR4:=hide (HR3.out.below hb4 HR3.out.lt)
  have HW4:=hide (HW3.out.trans (hb4.mono HW3.out.size))
  have HI4:=hide hi4
  clear hi4 hb4 HB3 HR3 HW3 HG3 HE3 A1 e4
  go_wp2_with fail
  refine(AT.out _ _ HI4.out).mono (Al HR4 HW4 fun A7 c7 w7 HR7 HW7 HG7=>?_)
  clear HR4 HW4 HI4
  go_wp2_with (refine AV HR7.out hsR rfl _ _ rfl rfl rfl rfl ?_;intro w8 hB8 hk8 hs8)
  exact BL rfl rfl rfl hB8 HG7 HR7 HW7 hk8 Ai
 by_cases f71:fn=71
 ·as_aux_lemma=>
  subst f71
  have ht:SN.atS s s.row ((SN.BX l 0 1)-1)=t:=HT0.out
  rw [EM.out] at ht
  have AT:=hide (fun w' v' h=>(show Calls Tryz.prog 109 #[v',.int .i64 (s.row:Nat),.int .i64 ((m:Int)-1)] w' (Au w' t) from ht▸FR s v' (s.row:Nat) ((m:Int)-1) w' HS.out (by omega) (by omega) h))
  clear HT0 ht
  have e4:w3.cell? ⟨gE,4,none⟩=some (.int .u8 71):=HE3.out.cell 4
  have k3:=HB3.out.c3
  go_wp2_with (refine AX HB3.out rfl _ rfl rfl ?_)
  refine(AT.out _ _ ⟨_,rfl,HG3.out⟩).mono (Al HR3 HW3 fun A7 c7 w7 HR7 HW7 HG7=>?_)
  clear e4 k3
  clear HB3 HR3 HW3 HG3 HE3
  go_wp2_with (refine AV HR7.out hsR rfl _ _ rfl rfl rfl rfl ?_;intro w8 hB8 hk8 hs8)
  exact BL rfl rfl rfl hB8 HG7 HR7 HW7 hk8 Ai
 by_cases f96:fn=96
 ·as_aux_lemma=>
  subst f96
  have ht:SN.atS s s.row ((SN.BX l 0 1)-1)=t:=HT0.out
  rw [EM.out] at ht
  have AT:=hide (fun w' v' h=>(show Calls Tryz.prog 109 #[v',.int .i64 (s.row:Nat),.int .i64 ((m:Int)-1)] w' (Au w' t) from ht▸FR s v' (s.row:Nat) ((m:Int)-1) w' HS.out (by omega) (by omega) h))
  clear HT0 ht
  have e4:w3.cell? ⟨gE,4,none⟩=some (.int .u8 96):=HE3.out.cell 4
  have k3:=HB3.out.c3
  go_wp2_with (refine AX HB3.out rfl _ rfl rfl ?_)
  refine(AT.out _ _ ⟨_,rfl,HG3.out⟩).mono (Al HR3 HW3 fun A7 c7 w7 HR7 HW7 HG7=>?_)
  clear e4 k3
  clear HB3 HR3 HW3 HG3 HE3
  go_wp2_with (refine AV HR7.out hsR rfl _ _ rfl rfl rfl rfl ?_;intro w8 hB8 hk8 hs8)
  exact BL rfl rfl rfl hB8 HG7 HR7 HW7 hk8 Ai
 by_cases f100:fn=100
 ·as_aux_lemma=>
  subst f100
  have ht:SN.goS s ((SN.BX l 0 1)-1) s.col=t:=HT0.out
  rw [EM.out] at ht
  have AT:=hide (fun w' v' h=>(show Calls Tryz.prog 171 #[v',.int .i64 ((m:Int)-1),.int .i64 (s.col:Nat)] w' (Au w' t) from ht▸Ob s v' ((m:Int)-1) (s.col:Nat) w' HS.out (by omega) (by omega) h))
  clear HT0 ht
  have e4:w3.cell? ⟨gE,4,none⟩=some (.int .u8 100):=HE3.out.cell 4
  have k4:=HB3.out.c4
  go_wp2_with (refine AX HB3.out rfl _ rfl rfl ?_)
  refine(AT.out _ _ ⟨_,rfl,HG3.out⟩).mono (Al HR3 HW3 fun A7 c7 w7 HR7 HW7 HG7=>?_)
  clear e4 k4
  clear HB3 HR3 HW3 HG3 HE3
  go_wp2_with (refine AV HR7.out hsR rfl _ _ rfl rfl rfl rfl ?_;intro w8 hB8 hk8 hs8)
  exact BL rfl rfl rfl hB8 HG7 HR7 HW7 hk8 Ai
 by_cases f72:fn=72
 ·as_aux_lemma=>
  subst f72
  have ht:SN.goS s ((SN.BX l 0 1)-1) (SN.BX l 1 1-1)=t:=HT0.out
  rw [EM.out,EK.out] at ht
  have GG:=hide (fun w' v' h=>(show Calls Tryz.prog 171 #[v',.int .i64 ((m:Int)-1),.int .i64 ((k:Int)-1)] w' (Au w' t) from ht▸Ob s v' ((m:Int)-1) ((k:Int)-1) w' HS.out (by omega) (by omega) h))
  have OK:=hide (fun w' (hb:Below w.heap.size w w')=>(show Calls Tryz.prog 168 #[.agg #[.int .i64 kd,.int .i32 rn,.int .u8 pv,.int .u8 it,.int .u8 72,.slice Ae n c,.string tx],.int .i64 1] w' (fun e w''=>e=.returned (.int .i64 (k:Nat))/\Below w'.heap.size w' w'') from Js kd rn pv it 72 Ae n c B tx l 1 _ EK.out w' (HL.out.below (hb.mono hB)) (Nat.le_trans hB hb.size) HLB.out))
  clear HT0 ht
  have e4:w3.cell? ⟨gE,4,none⟩=some (.int .u8 72):=HE3.out.cell 4
  go_upto_region 22 with fail
  clear e4
  have HO:=hide (fun w' (hb:Below w3.heap.size w3 w')=>OK.out w' (HW3.out.trans (hb.mono HW3.out.size)))
  have GX:=hide (fun w' (hb:Below w3.heap.size w3 w')=>GG.out w' _ ⟨_,rfl,HG3.out.low hb⟩)
  clear OK GG
  go_simp
  refine BO (n:=82) 7 [] (fun _=> #[]) [(0,0,0,0,0),(0,0,0,0,0),(0,0,0,0,0),(0,0,0,0,0),(0,0,0,0,0),(0,0,0,0,0),(1,0,0,0,0),(0,0,0,0,0)] (fun j=> [(.agg (scA (.slice A (s.g.rows*s.g.AB) cp) s)),(.int .i64 (m:Nat)),(.int .i64 ((m:Int)-1)),(.agg #[.int .i64 kd,.int .i32 rn,.int .u8 pv,.int .u8 it,.int .u8 72,.slice Ae n c,.string tx]),(.int .i64 (k:Nat)),(.int .i64 ((k:Int)-1)),undef,undef].getD j undef) [none,none,none,none,none,none,some (EH t)] (fun _=>0) (by kernel_rfl) (by kernel_rfl) (by kernel_rfl) rfl (by kernel_rfl) (by kernel_rfl) (Cy rfl) (fun i j h=>by revert h;exact Cy (p:=fun _=>_) rfl i) (Ag.none_ (Ag.none_ (Ag.none_ (Ag.none_ (Ag.none_ (Ag.none_ (Ag.some_ (EH.stays (by kernel_rfl)) (Ag.nil _)))))))) (fun hGS=>K9 ⟨?_,?_,?_,?_,?_,?_,?_⟩) ?_
  ·intro L a w' hL hsame hsz hJ AJ hcl
   have hb:=hJ.kept.toBelow (Nat.le_refl _) (by simp)
   have e0:a.eval (.tmp 2)=(.pointer (some ⟨g,0,none⟩)):=AZ hsame (by kernel_rfl)
   have hx:=hJ.Ah ((show Box w3 g 43 (scA (.slice A (s.g.rows*s.g.AB) cp) s) from HB3.out)) (by simp)
   exact Step.val _ rfl rfl (AU rfl) (.agg (scA (.slice A (s.g.rows*s.g.AB) cp) s)) w' (fun ρ hρ=>BG hx rfl ρ _ rfl ((hρ _).symm.trans e0)) (hJ.val hGS hcl hL rfl (Below.refl _ _) _ rfl)
  ·intro L a w' hL hsame hsz hJ AJ hcl
   refine Aw hJ hGS hcl hL 5 (.int .i64 (m:Nat)) (.int .i64 (m:Nat)) (AZ hsame (by kernel_rfl)) _ rfl rfl rfl rfl rfl fun ρ _ e0=>?_
   clear hJ hsame AJ hcl hsz
   go_simp
  ·intro L a w' hL hsame hsz hJ AJ hcl
   refine Aw hJ hGS hcl hL 73 (.int .i64 (m:Nat)) (.int .i64 ((m:Int)-1)) (gslot hJ AJ 1 (by kernel_rfl) (by kernel_rfl) (by decide) rfl rfl) _ rfl rfl rfl rfl rfl fun ρ hc e0=>?_
   have ec0:=hc (.int .i64 1)
   clear hJ hsame AJ hcl hsz
   go_simp
   exact IntWalk.i64_in _ (by omega)
  ·intro L a w' hL hsame hsz hJ AJ hcl
   have hx:=hJ.Ah ((show Box w3 gE 34 #[.int .i64 kd,.int .i32 rn,.int .u8 pv,.int .u8 it,.int .u8 72,.slice Ae n c,.string tx] from HE3.out)) (by simp)
   have q0:w'.cell? ⟨gE,0,none⟩=some (.int .i64 kd):=hx.cell 0
   have q1:w'.cell? ⟨gE,1,none⟩=some (.int .i32 rn):=hx.cell 1
   have q2:w'.cell? ⟨gE,2,none⟩=some (.int .u8 pv):=hx.cell 2
   have q3:w'.cell? ⟨gE,3,none⟩=some (.int .u8 it):=hx.cell 3
   have q4:w'.cell? ⟨gE,4,none⟩=some (.int .u8 72):=hx.cell 4
   have q5:w'.cell? ⟨gE,5,none⟩=some (.slice Ae n c):=hx.cell 5
   have q6:w'.cell? ⟨gE,6,none⟩=some (.string tx):=hx.cell 6
   refine Aw hJ hGS hcl hL 3 (.pointer (some ⟨gE,0,none⟩)) (.agg #[.int .i64 kd,.int .i32 rn,.int .u8 pv,.int .u8 it,.int .u8 72,.slice Ae n c,.string tx]) (AZ hsame (by kernel_rfl)) _ rfl rfl rfl rfl rfl fun ρ _ e0=>?_
   clear hJ hsame AJ hcl hsz hx
   go_simp
  ·intro L a w' hL hsame hsz hJ AJ hcl
   have hb:=hJ.kept.toBelow (Nat.le_refl _) (by simp)
   have e0:a.eval (.tmp 75)=(.agg #[.int .i64 kd,.int .i32 rn,.int .u8 pv,.int .u8 it,.int .u8 72,.slice Ae n c,.string tx]):=AQ (j:=3) (by kernel_rfl) (hJ.valOf (by decide) (AY AJ 3 (by kernel_rfl)) rfl rfl)
   refine Step.call _ rfl rfl (AU rfl) 168 #[.agg #[.int .i64 kd,.int .i32 rn,.int .u8 pv,.int .u8 it,.int .u8 72,.slice Ae n c,.string tx],.int .i64 1] (fun ρ hρ=>?_) ?_
   ·skip
    rw [hρ] at e0
    have ec0:ρ (.const (.int .i64 1))=(.int .i64 1):=(hρ _).symm
    have ef:ρ (.func 168)=.func (.func 168) #[] #[] :=(hρ _).symm
    clear hJ hsame AJ hcl hρ hsz hb
    go_simp
   ·refine(HO.out _ hb).mono ?_
    rintro e w2 ⟨rfl,bb⟩
    exact⟨_,rfl,hJ.val hGS hcl hL rfl bb _ rfl⟩
  ·intro L a w' hL hsame hsz hJ AJ hcl
   refine Aw hJ hGS hcl hL 76 (.int .i64 (k:Nat)) (.int .i64 ((k:Int)-1)) (gslot hJ AJ 4 (by kernel_rfl) (by kernel_rfl) (by decide) rfl rfl) _ rfl rfl rfl rfl rfl fun ρ hc e0=>?_
   have ec0:=hc (.int .i64 1)
   clear hJ hsame AJ hcl hsz
   go_simp
   exact IntWalk.i64_in _ (by omega)
  ·intro L a w' hL hsame hsz hJ AJ hcl
   have hb:=hJ.kept.toBelow (Nat.le_refl _) (by simp)
   have e0:a.eval (.tmp 72)=(.agg (scA (.slice A (s.g.rows*s.g.AB) cp) s)):=AQ (j:=0) (by kernel_rfl) (hJ.valOf (by decide) (AY AJ 0 (by kernel_rfl)) rfl rfl)
   have e1:a.eval (.tmp 74)=(.int .i64 ((m:Int)-1)):=AQ (j:=2) (by kernel_rfl) (hJ.valOf (by decide) (AY AJ 2 (by kernel_rfl)) rfl rfl)
   have e2:a.eval (.tmp 77)=(.int .i64 ((k:Int)-1)):=AQ (j:=5) (by kernel_rfl) (hJ.valOf (by decide) (AY AJ 5 (by kernel_rfl)) rfl rfl)
   refine Step.call _ rfl rfl (AU rfl) 171 #[.agg (scA (.slice A (s.g.rows*s.g.AB) cp) s),.int .i64 ((m:Int)-1),.int .i64 ((k:Int)-1)] (fun ρ hρ=>?_) ?_
   ·skip
    rw [hρ] at e0 e1 e2
    have ef:ρ (.func 171)=.func (.func 171) #[] #[] :=(hρ _).symm
    clear hJ hsame AJ hcl hρ hsz hb
    go_simp
   ·refine(GX.out _ hb).mono ?_
    rintro e w2 ⟨v,rfl,hi,bb⟩
    exact⟨_,rfl,hJ.pred hGS hcl hL rfl bb _ (FC hi)⟩
  ·intro L u w' hF hall
   change wpList _ _ _ _ (Act.put (Act.put (Act.put (Act.put (Act.put (Act.put (Act.put (Act.put (Aq _ u 0 _) (some 72) (u 0)) (some 73) (u 1)) (some 74) (u 2)) (some 75) (u 3)) (some 76) (u 4)) (some 77) (u 5)) (some 78) (u 6)) none (u 7)) _
   simp only [Aq]
   obtain⟨A8,c8,f6,hi8⟩:=(show EH t (u 6) w' from hF.Bc (j:=6) (by decide) (hall 6 (by decide)) rfl)
   have hkk:=hF.kept.toBelow (Nat.le_refl _) (by simp)
   clear hF
   generalize u 0=y0
   generalize u 1=y1
   generalize u 2=y2
   generalize u 3=y3
   generalize u 4=y4
   generalize u 5=y5
   generalize u 6=y6 at f6⊢
   generalize u 7=y7
   subst f6
   simp only [List.drop_succ_cons,List.drop_zero]
   have HR4:=hide (HR3.out.below hkk HR3.out.lt)
   have HW4:=hide (HW3.out.trans (hkk.mono HW3.out.size))
   clear HB3 HG3 HR3 HW3 HE3 hkk
   refine AV (x:=.slice A8 (t.g.rows*t.g.AB) c8) (s:=t) HR4.out hsR rfl _ _ rfl (by((repeat(first | rw [Ej] | rw [Ei (by decide)]));rfl)) (by((repeat(first | rw [Ej] | rw [Ei (by decide)]));rw [JL (by(repeat rw [Co]);exact Nat.lt_of_lt_of_le (m:=82) (by decide) (Nat.le_refl 82))])) rfl ?_
   intro w8 hB8 hk8 hs8
   change Exit.then _ _ Exit.normal _ _
   go_simp
   go_step
   go_wp2_with fail
   exact BL rfl rfl rfl hB8 (hide hi8) HR4 HW4 hk8 Ai
 by_cases f102:fn=102
 ·as_aux_lemma=>
  subst f102
  have ht:SN.goS s ((SN.BX l 0 1)-1) (SN.BX l 1 1-1)=t:=HT0.out
  rw [EM.out,EK.out] at ht
  have GG:=hide (fun w' v' h=>(show Calls Tryz.prog 171 #[v',.int .i64 ((m:Int)-1),.int .i64 ((k:Int)-1)] w' (Au w' t) from ht▸Ob s v' ((m:Int)-1) ((k:Int)-1) w' HS.out (by omega) (by omega) h))
  have OK:=hide (fun w' (hb:Below w.heap.size w w')=>(show Calls Tryz.prog 168 #[.agg #[.int .i64 kd,.int .i32 rn,.int .u8 pv,.int .u8 it,.int .u8 102,.slice Ae n c,.string tx],.int .i64 1] w' (fun e w''=>e=.returned (.int .i64 (k:Nat))/\Below w'.heap.size w' w'') from Js kd rn pv it 102 Ae n c B tx l 1 _ EK.out w' (HL.out.below (hb.mono hB)) (Nat.le_trans hB hb.size) HLB.out))
  clear HT0 ht
  have e4:w3.cell? ⟨gE,4,none⟩=some (.int .u8 102):=HE3.out.cell 4
  go_upto_region 22 with fail
  clear e4
  have HO:=hide (fun w' (hb:Below w3.heap.size w3 w')=>OK.out w' (HW3.out.trans (hb.mono HW3.out.size)))
  have GX:=hide (fun w' (hb:Below w3.heap.size w3 w')=>GG.out w' _ ⟨_,rfl,HG3.out.low hb⟩)
  clear OK GG
  go_simp
  refine BO (n:=82) 7 [] (fun _=> #[]) [(0,0,0,0,0),(0,0,0,0,0),(0,0,0,0,0),(0,0,0,0,0),(0,0,0,0,0),(0,0,0,0,0),(1,0,0,0,0),(0,0,0,0,0)] (fun j=> [(.agg (scA (.slice A (s.g.rows*s.g.AB) cp) s)),(.int .i64 (m:Nat)),(.int .i64 ((m:Int)-1)),(.agg #[.int .i64 kd,.int .i32 rn,.int .u8 pv,.int .u8 it,.int .u8 102,.slice Ae n c,.string tx]),(.int .i64 (k:Nat)),(.int .i64 ((k:Int)-1)),undef,undef].getD j undef) [none,none,none,none,none,none,some (EH t)] (fun _=>0) (by kernel_rfl) (by kernel_rfl) (by kernel_rfl) rfl (by kernel_rfl) (by kernel_rfl) (Cy rfl) (fun i j h=>by revert h;exact Cy (p:=fun _=>_) rfl i) (Ag.none_ (Ag.none_ (Ag.none_ (Ag.none_ (Ag.none_ (Ag.none_ (Ag.some_ (EH.stays (by kernel_rfl)) (Ag.nil _)))))))) (fun hGS=>K9 ⟨?_,?_,?_,?_,?_,?_,?_⟩) ?_
  ·intro L a w' hL hsame hsz hJ AJ hcl
   have hb:=hJ.kept.toBelow (Nat.le_refl _) (by simp)
   have e0:a.eval (.tmp 2)=(.pointer (some ⟨g,0,none⟩)):=AZ hsame (by kernel_rfl)
   have hx:=hJ.Ah ((show Box w3 g 43 (scA (.slice A (s.g.rows*s.g.AB) cp) s) from HB3.out)) (by simp)
   exact Step.val _ rfl rfl (AU rfl) (.agg (scA (.slice A (s.g.rows*s.g.AB) cp) s)) w' (fun ρ hρ=>BG hx rfl ρ _ rfl ((hρ _).symm.trans e0)) (hJ.val hGS hcl hL rfl (Below.refl _ _) _ rfl)
  ·intro L a w' hL hsame hsz hJ AJ hcl
   refine Aw hJ hGS hcl hL 5 (.int .i64 (m:Nat)) (.int .i64 (m:Nat)) (AZ hsame (by kernel_rfl)) _ rfl rfl rfl rfl rfl fun ρ _ e0=>?_
   clear hJ hsame AJ hcl hsz
   go_simp
  ·intro L a w' hL hsame hsz hJ AJ hcl
   refine Aw hJ hGS hcl hL 73 (.int .i64 (m:Nat)) (.int .i64 ((m:Int)-1)) (gslot hJ AJ 1 (by kernel_rfl) (by kernel_rfl) (by decide) rfl rfl) _ rfl rfl rfl rfl rfl fun ρ hc e0=>?_
   have ec0:=hc (.int .i64 1)
   clear hJ hsame AJ hcl hsz
   go_simp
   exact IntWalk.i64_in _ (by omega)
  ·intro L a w' hL hsame hsz hJ AJ hcl
   have hx:=hJ.Ah ((show Box w3 gE 34 #[.int .i64 kd,.int .i32 rn,.int .u8 pv,.int .u8 it,.int .u8 102,.slice Ae n c,.string tx] from HE3.out)) (by simp)
   have q0:w'.cell? ⟨gE,0,none⟩=some (.int .i64 kd):=hx.cell 0
   have q1:w'.cell? ⟨gE,1,none⟩=some (.int .i32 rn):=hx.cell 1
   have q2:w'.cell? ⟨gE,2,none⟩=some (.int .u8 pv):=hx.cell 2
   have q3:w'.cell? ⟨gE,3,none⟩=some (.int .u8 it):=hx.cell 3
   have q4:w'.cell? ⟨gE,4,none⟩=some (.int .u8 102):=hx.cell 4
   have q5:w'.cell? ⟨gE,5,none⟩=some (.slice Ae n c):=hx.cell 5
   have q6:w'.cell? ⟨gE,6,none⟩=some (.string tx):=hx.cell 6
   refine Aw hJ hGS hcl hL 3 (.pointer (some ⟨gE,0,none⟩)) (.agg #[.int .i64 kd,.int .i32 rn,.int .u8 pv,.int .u8 it,.int .u8 102,.slice Ae n c,.string tx]) (AZ hsame (by kernel_rfl)) _ rfl rfl rfl rfl rfl fun ρ _ e0=>?_
   clear hJ hsame AJ hcl hsz hx
   go_simp
  ·intro L a w' hL hsame hsz hJ AJ hcl
   have hb:=hJ.kept.toBelow (Nat.le_refl _) (by simp)
   have e0:a.eval (.tmp 75)=(.agg #[.int .i64 kd,.int .i32 rn,.int .u8 pv,.int .u8 it,.int .u8 102,.slice Ae n c,.string tx]):=AQ (j:=3) (by kernel_rfl) (hJ.valOf (by decide) (AY AJ 3 (by kernel_rfl)) rfl rfl)
   refine Step.call _ rfl rfl (AU rfl) 168 #[.agg #[.int .i64 kd,.int .i32 rn,.int .u8 pv,.int .u8 it,.int .u8 102,.slice Ae n c,.string tx],.int .i64 1] (fun ρ hρ=>?_) ?_
   ·skip
    rw [hρ] at e0
    have ec0:ρ (.const (.int .i64 1))=(.int .i64 1):=(hρ _).symm
    have ef:ρ (.func 168)=.func (.func 168) #[] #[] :=(hρ _).symm
    clear hJ hsame AJ hcl hρ hsz hb
    go_simp
   ·refine(HO.out _ hb).mono ?_
    rintro e w2 ⟨rfl,bb⟩
    exact⟨_,rfl,hJ.val hGS hcl hL rfl bb _ rfl⟩
  ·intro L a w' hL hsame hsz hJ AJ hcl
   refine Aw hJ hGS hcl hL 76 (.int .i64 (k:Nat)) (.int .i64 ((k:Int)-1)) (gslot hJ AJ 4 (by kernel_rfl) (by kernel_rfl) (by decide) rfl rfl) _ rfl rfl rfl rfl rfl fun ρ hc e0=>?_
   have ec0:=hc (.int .i64 1)
   clear hJ hsame AJ hcl hsz
   go_simp
   exact IntWalk.i64_in _ (by omega)
  ·intro L a w' hL hsame hsz hJ AJ hcl
   have hb:=hJ.kept.toBelow (Nat.le_refl _) (by simp)
   have e0:a.eval (.tmp 72)=(.agg (scA (.slice A (s.g.rows*s.g.AB) cp) s)):=AQ (j:=0) (by kernel_rfl) (hJ.valOf (by decide) (AY AJ 0 (by kernel_rfl)) rfl rfl)
   have e1:a.eval (.tmp 74)=(.int .i64 ((m:Int)-1)):=AQ (j:=2) (by kernel_rfl) (hJ.valOf (by decide) (AY AJ 2 (by kernel_rfl)) rfl rfl)
   have e2:a.eval (.tmp 77)=(.int .i64 ((k:Int)-1)):=AQ (j:=5) (by kernel_rfl) (hJ.valOf (by decide) (AY AJ 5 (by kernel_rfl)) rfl rfl)
   refine Step.call _ rfl rfl (AU rfl) 171 #[.agg (scA (.slice A (s.g.rows*s.g.AB) cp) s),.int .i64 ((m:Int)-1),.int .i64 ((k:Int)-1)] (fun ρ hρ=>?_) ?_
   ·skip
    rw [hρ] at e0 e1 e2
    have ef:ρ (.func 171)=.func (.func 171) #[] #[] :=(hρ _).symm
    clear hJ hsame AJ hcl hρ hsz hb
    go_simp
   ·refine(GX.out _ hb).mono ?_
    rintro e w2 ⟨v,rfl,hi,bb⟩
    exact⟨_,rfl,hJ.pred hGS hcl hL rfl bb _ (FC hi)⟩
  ·intro L u w' hF hall
   change wpList _ _ _ _ (Act.put (Act.put (Act.put (Act.put (Act.put (Act.put (Act.put (Act.put (Aq _ u 0 _) (some 72) (u 0)) (some 73) (u 1)) (some 74) (u 2)) (some 75) (u 3)) (some 76) (u 4)) (some 77) (u 5)) (some 78) (u 6)) none (u 7)) _
   simp only [Aq]
   obtain⟨A8,c8,f6,hi8⟩:=(show EH t (u 6) w' from hF.Bc (j:=6) (by decide) (hall 6 (by decide)) rfl)
   have hkk:=hF.kept.toBelow (Nat.le_refl _) (by simp)
   clear hF
   generalize u 0=y0
   generalize u 1=y1
   generalize u 2=y2
   generalize u 3=y3
   generalize u 4=y4
   generalize u 5=y5
   generalize u 6=y6 at f6⊢
   generalize u 7=y7
   subst f6
   simp only [List.drop_succ_cons,List.drop_zero]
   have HR4:=hide (HR3.out.below hkk HR3.out.lt)
   have HW4:=hide (HW3.out.trans (hkk.mono HW3.out.size))
   clear HB3 HG3 HR3 HW3 HE3 hkk
   refine AV (x:=.slice A8 (t.g.rows*t.g.AB) c8) (s:=t) HR4.out hsR rfl _ _ rfl (by((repeat(first | rw [Ej] | rw [Ei (by decide)]));rfl)) (by((repeat(first | rw [Ej] | rw [Ei (by decide)]));rw [JL (by(repeat rw [Co]);exact Nat.lt_of_lt_of_le (m:=82) (by decide) (Nat.le_refl 82))])) rfl ?_
   intro w8 hB8 hk8 hs8
   change Exit.then _ _ Exit.normal _ _
   go_simp
   go_step
   go_wp2_with fail
   exact BL rfl rfl rfl hB8 (hide hi8) HR4 HW4 hk8 Ai
 have q65:(fn==65)=false:=by simp;omega
 have q66:(fn==66)=false:=by simp;omega
 have q67:(fn==67)=false:=by simp;omega
 have q68:(fn==68)=false:=by simp;omega
 have q69:(fn==69)=false:=by simp;omega
 have q70:(fn==70)=false:=by simp;omega
 have q71:(fn==71)=false:=by simp;omega
 have q96:(fn==96)=false:=by simp;omega
 have q100:(fn==100)=false:=by simp;omega
 have q72:(fn==72)=false:=by simp;omega
 have q102:(fn==102)=false:=by simp;omega
 have ht:SN.F6 s fn l=t:=by
  have:=HT0.out
  unfold SN.ML at this
  rw [if_neg (by omega),if_neg (by omega),if_neg (by omega),if_neg (by omega),if_neg (by omega),if_neg (by omega),if_neg (by omega),if_neg (by omega),if_neg (by omega)] at this
  exact this
 have AT:=hide (fun w' v' (hb:Below w.heap.size w w') h=>(show Calls Tryz.prog 172 #[v',.agg #[.int .i64 kd,.int .i32 rn,.int .u8 pv,.int .u8 it,.int .u8 fn,.slice Ae n c,.string tx]] w' (Au w' t) from XA s t v' kd rn pv it fn Ae n c B tx l w' HS.out (HL.out.below (hb.mono hB)) (Nat.le_trans hB hb.size) hn hnc HLB.out (HF.out.keep hb) ht h))
 clear HT0 ht f65 f66 f67 f68 f69 f70 f71 f96 f100 f72 f102
 obtain⟨e0,e1,e2,e3,e4,e5,e6⟩:=HE3.out.Bg
 go_wp2_with (refine AX HB3.out rfl _ rfl rfl ?_)
 refine(AT.out _ _ HW3.out ⟨_,rfl,HG3.out⟩).mono (Al HR3 HW3 fun A7 c7 w7 HR7 HW7 HG7=>?_)
 clear e0 e1 e2 e3 e4 e5 e6
 clear HB3 HR3 HW3 HG3 HE3
 go_wp2_with (refine AV HR7.out hsR rfl _ _ rfl rfl rfl rfl ?_;intro w8 hB8 hk8 hs8)
 exact BL rfl rfl rfl hB8 HG7 HR7 HW7 hk8 Ai
theorem dY (s t:SN.Sc) (v:Value) (kd rn pv it fn:Int) (Ae:Option Addr) (n c B:Nat) (tx:ByteArray) (l:List Int) (w:World) (hs:SN.Ab s) (hl:Seen w B Ae n (l.map (Value.int .i64))) (hB:B<=w.heap.size) (hn:n<=100) (hnc:n<=c) (hlb: ∀x∈l, -1<=x/\x<=65535) (hi:it≠0) (ht:s=t) (h:IsS w s v):Calls Tryz.prog 102 #[v,.agg #[.int .i64 kd,.int .i32 rn,.int .u8 pv,.int .u8 it,.int .u8 fn,.slice Ae n c,.string tx]] w (Au w t):=by
 obtain⟨x,rfl,hg⟩:=h
 obtain⟨A,cp,rfl⟩:=Ac hg
 have HG:=hide hg
 have hgr:=hs.g.2.1
 have hgc:=hs.g.2.2.2.1
 have hR1:=hs.g.1
 have hK1:=hs.g.2.2.1
 have hrow:=hs.row
 have Bv:=hs.col
 have htop:=SN.C9 hs
 have JK:=hs.bot
 have q0:(it !=0)=true:=by simp;omega
 subst ht
 clear hs hg hl hlb
 go_enter Tryz.func102,Tryz.ntmps102
 go_upto_region 1 with (refine Dk HG _ rfl rfl rfl _ rfl rfl (fun _=>rfl) rfl rfl ?_;intro g gE gR w2 csR hsR HB2 HE2 HW2 HR2 HG2 hne FU FV hg1 Ai)
 clear HG
 obtain⟨e0,e1,e2,e3,e4,e5,e6⟩:=HE2.out.Bg
 go_wp2_with (first | (refine AX HB2.out rfl _ rfl rfl ?_) | (refine AV HR2.out hsR rfl _ _ rfl rfl rfl rfl ?_;intro w8 hB8 hk8 hs8))
 exact BL rfl rfl rfl hB8 HG2 HR2 HW2 hk8 Ai
theorem jH (s t:SN.Sc) (v:Value) (kd rn fn:Int) (Ae:Option Addr) (n c B:Nat) (tx:ByteArray) (l:List Int) (w:World) (hs:SN.Ab s) (hl:Seen w B Ae n (l.map (Value.int .i64))) (hB:B<=w.heap.size) (hn:n<=100) (hnc:n<=c) (hlb: ∀x∈l, -1<=x/\x<=65535) (hF:DL w) (ht:(SN.ML s fn l).getD (SN.F6 s fn l)=t) (h:IsS w s v):Calls Tryz.prog 102 #[v,.agg #[.int .i64 kd,.int .i32 rn,.int .u8 0,.int .u8 0,.int .u8 fn,.slice Ae n c,.string tx]] w (Au w t):=by
 obtain⟨x,rfl,hg⟩:=h
 obtain⟨A,cp,rfl⟩:=Ac hg
 have HG:=hide hg
 have hgr:=hs.g.2.1
 have hgc:=hs.g.2.2.2.1
 have hR1:=hs.g.1
 have hK1:=hs.g.2.2.1
 have hrow:=hs.row
 have Bv:=hs.col
 have htop:=SN.C9 hs
 have JK:=hs.bot
 have AT:=hide (fun w' v' (hb:Below w.heap.size w w') h=>(show Calls Tryz.prog 137 #[v',.agg #[.int .i64 kd,.int .i32 rn,.int .u8 0,.int .u8 0,.int .u8 fn,.slice Ae n c,.string tx]] w' (Au w' t) from dX s t v' kd rn 0 0 fn Ae n c B tx l w' hs (hl.below (hb.mono hB)) (Nat.le_trans hB hb.size) hn hnc hlb (hF.keep hb) ht h))
 clear ht hs hg hl hlb
 go_enter Tryz.func102,Tryz.ntmps102
 go_upto_region 1 with (refine Dk HG _ rfl rfl rfl _ rfl rfl (fun _=>rfl) rfl rfl ?_;intro g gE gR w2 csR hsR HB2 HE2 HW2 HR2 HG2 hne FU FV hg1 Ai)
 clear HG
 obtain⟨e0,e1,e2,e3,e4,e5,e6⟩:=HE2.out.Bg
 go_wp2_with (refine AX HB2.out rfl _ rfl rfl ?_)
 refine(AT.out _ _ HW2.out ⟨_,rfl,HG2.out⟩).mono (Al HR2 HW2 fun A7 c7 w7 HR7 HW7 HG7=>?_)
 clear e0 e1 e2 e3 e4 e5 e6
 clear HB2 HR2 HW2 HG2 HE2
 go_wp2_with (refine AV HR7.out hsR rfl _ _ rfl rfl rfl rfl ?_;intro w8 hB8 hk8 hs8)
 exact BL rfl rfl rfl hB8 HG7 HR7 HW7 hk8 Ai
theorem ZQ (s t:SN.Sc) (v:Value) (kd rn:Int) (Ae:Option Addr) (n c B:Nat) (tx:ByteArray) (l:List Int) (w:World) (hs:SN.Ab s) (hl:Seen w B Ae n (l.map (Value.int .i64))) (hB:B<=w.heap.size) (hn:n<=100) (hnc:n<=c) (hlb: ∀x∈l, -1<=x/\x<=65535) (ht:SN.Ch s true l=t) (h:IsS w s v):Calls Tryz.prog 102 #[v,.agg #[.int .i64 kd,.int .i32 rn,.int .u8 63,.int .u8 0,.int .u8 104,.slice Ae n c,.string tx]] w (Au w t):=by
 obtain⟨x,rfl,hg⟩:=h
 obtain⟨A,cp,rfl⟩:=Ac hg
 have HG:=hide hg
 have hgr:=hs.g.2.1
 have hgc:=hs.g.2.2.2.1
 have hR1:=hs.g.1
 have hK1:=hs.g.2.2.1
 have hrow:=hs.row
 have Bv:=hs.col
 have htop:=SN.C9 hs
 have JK:=hs.bot
 have AT:=hide (fun w' v' (hb:Below w.heap.size w w') h=>(show Calls Tryz.prog 138 #[v',.bool true,.slice Ae n c] w' (Au w' t) from ht▸Np s v' true Ae n c B l w' hs (hl.below (hb.mono hB)) (Nat.le_trans hB hb.size) hn h))
 clear ht hs hg hl hlb
 go_enter Tryz.func102,Tryz.ntmps102
 go_upto_region 1 with (refine Dk HG _ rfl rfl rfl _ rfl rfl (fun _=>rfl) rfl rfl ?_;intro g gE gR w2 csR hsR HB2 HE2 HW2 HR2 HG2 hne FU FV hg1 Ai)
 clear HG
 obtain⟨e0,e1,e2,e3,e4,e5,e6⟩:=HE2.out.Bg
 go_wp2_with (refine AX HB2.out rfl _ rfl rfl ?_)
 refine(AT.out _ _ HW2.out ⟨_,rfl,HG2.out⟩).mono (Al HR2 HW2 fun A7 c7 w7 HR7 HW7 HG7=>?_)
 clear e0 e1 e2 e3 e4 e5 e6
 clear HB2 HR2 HW2 HG2 HE2
 go_wp2_with (refine AV HR7.out hsR rfl _ _ rfl rfl rfl rfl ?_;intro w8 hB8 hk8 hs8)
 exact BL rfl rfl rfl hB8 HG7 HR7 HW7 hk8 Ai
theorem ZT (s t:SN.Sc) (v:Value) (kd rn:Int) (Ae:Option Addr) (n c B:Nat) (tx:ByteArray) (l:List Int) (w:World) (hs:SN.Ab s) (hl:Seen w B Ae n (l.map (Value.int .i64))) (hB:B<=w.heap.size) (hn:n<=100) (hnc:n<=c) (hlb: ∀x∈l, -1<=x/\x<=65535) (ht:SN.Ch s false l=t) (h:IsS w s v):Calls Tryz.prog 102 #[v,.agg #[.int .i64 kd,.int .i32 rn,.int .u8 63,.int .u8 0,.int .u8 108,.slice Ae n c,.string tx]] w (Au w t):=by
 obtain⟨x,rfl,hg⟩:=h
 obtain⟨A,cp,rfl⟩:=Ac hg
 have HG:=hide hg
 have hgr:=hs.g.2.1
 have hgc:=hs.g.2.2.2.1
 have hR1:=hs.g.1
 have hK1:=hs.g.2.2.1
 have hrow:=hs.row
 have Bv:=hs.col
 have htop:=SN.C9 hs
 have JK:=hs.bot
 have AT:=hide (fun w' v' (hb:Below w.heap.size w w') h=>(show Calls Tryz.prog 138 #[v',.bool false,.slice Ae n c] w' (Au w' t) from ht▸Np s v' false Ae n c B l w' hs (hl.below (hb.mono hB)) (Nat.le_trans hB hb.size) hn h))
 clear ht hs hg hl hlb
 go_enter Tryz.func102,Tryz.ntmps102
 go_upto_region 1 with (refine Dk HG _ rfl rfl rfl _ rfl rfl (fun _=>rfl) rfl rfl ?_;intro g gE gR w2 csR hsR HB2 HE2 HW2 HR2 HG2 hne FU FV hg1 Ai)
 clear HG
 obtain⟨e0,e1,e2,e3,e4,e5,e6⟩:=HE2.out.Bg
 go_wp2_with (refine AX HB2.out rfl _ rfl rfl ?_)
 refine(AT.out _ _ HW2.out ⟨_,rfl,HG2.out⟩).mono (Al HR2 HW2 fun A7 c7 w7 HR7 HW7 HG7=>?_)
 clear e0 e1 e2 e3 e4 e5 e6
 clear HB2 HR2 HW2 HG2 HE2
 go_wp2_with (refine AV HR7.out hsR rfl _ _ rfl rfl rfl rfl ?_;intro w8 hB8 hk8 hs8)
 exact BL rfl rfl rfl hB8 HG7 HR7 HW7 hk8 Ai
theorem jI (s t:SN.Sc) (v:Value) (kd rn fn:Int) (Ae:Option Addr) (n c B:Nat) (tx:ByteArray) (l:List Int) (w:World) (hs:SN.Ab s) (hl:Seen w B Ae n (l.map (Value.int .i64))) (hB:B<=w.heap.size) (hn:n<=100) (hnc:n<=c) (hlb: ∀x∈l, -1<=x/\x<=65535) (hf:fn≠104/\fn≠108) (ht:s=t) (h:IsS w s v):Calls Tryz.prog 102 #[v,.agg #[.int .i64 kd,.int .i32 rn,.int .u8 63,.int .u8 0,.int .u8 fn,.slice Ae n c,.string tx]] w (Au w t):=by
 obtain⟨x,rfl,hg⟩:=h
 obtain⟨A,cp,rfl⟩:=Ac hg
 have HG:=hide hg
 have hgr:=hs.g.2.1
 have hgc:=hs.g.2.2.2.1
 have hR1:=hs.g.1
 have hK1:=hs.g.2.2.1
 have hrow:=hs.row
 have Bv:=hs.col
 have htop:=SN.C9 hs
 have JK:=hs.bot
 have q1:(fn==104)=false:=by simp;omega
 have q2:(fn==108)=false:=by simp;omega
 clear hf
 subst ht
 clear hs hg hl hlb
 go_enter Tryz.func102,Tryz.ntmps102
 go_upto_region 1 with (refine Dk HG _ rfl rfl rfl _ rfl rfl (fun _=>rfl) rfl rfl ?_;intro g gE gR w2 csR hsR HB2 HE2 HW2 HR2 HG2 hne FU FV hg1 Ai)
 clear HG
 obtain⟨e0,e1,e2,e3,e4,e5,e6⟩:=HE2.out.Bg
 go_wp2_with (first | (refine AX HB2.out rfl _ rfl rfl ?_) | (refine AV HR2.out hsR rfl _ _ rfl rfl rfl rfl ?_;intro w8 hB8 hk8 hs8))
 exact BL rfl rfl rfl hB8 HG2 HR2 HW2 hk8 Ai
theorem dZ (s t:SN.Sc) (v:Value) (kd rn pv fn:Int) (Ae:Option Addr) (n c B:Nat) (tx:ByteArray) (l:List Int) (w:World) (hs:SN.Ab s) (hl:Seen w B Ae n (l.map (Value.int .i64))) (hB:B<=w.heap.size) (hn:n<=100) (hnc:n<=c) (hlb: ∀x∈l, -1<=x/\x<=65535) (hp:pv≠0/\pv≠63) (ht:s=t) (h:IsS w s v):Calls Tryz.prog 102 #[v,.agg #[.int .i64 kd,.int .i32 rn,.int .u8 pv,.int .u8 0,.int .u8 fn,.slice Ae n c,.string tx]] w (Au w t):=by
 obtain⟨x,rfl,hg⟩:=h
 obtain⟨A,cp,rfl⟩:=Ac hg
 have HG:=hide hg
 have hgr:=hs.g.2.1
 have hgc:=hs.g.2.2.2.1
 have hR1:=hs.g.1
 have hK1:=hs.g.2.2.1
 have hrow:=hs.row
 have Bv:=hs.col
 have htop:=SN.C9 hs
 have JK:=hs.bot
 have q1:(pv==0)=false:=by simp;omega
 have q2:(pv==63)=false:=by simp;omega
 clear hp
 subst ht
 clear hs hg hl hlb
 go_enter Tryz.func102,Tryz.ntmps102
 go_upto_region 1 with (refine Dk HG _ rfl rfl rfl _ rfl rfl (fun _=>rfl) rfl rfl ?_;intro g gE gR w2 csR hsR HB2 HE2 HW2 HR2 HG2 hne FU FV hg1 Ai)
 clear HG
 obtain⟨e0,e1,e2,e3,e4,e5,e6⟩:=HE2.out.Bg
 go_wp2_with (first | (refine AX HB2.out rfl _ rfl rfl ?_) | (refine AV HR2.out hsR rfl _ _ rfl rfl rfl rfl ?_;intro w8 hB8 hk8 hs8))
 exact BL rfl rfl rfl hB8 HG2 HR2 HW2 hk8 Ai
theorem dh (s:SN.Sc) (v:Value) (kd rn pv it fn:Int) (Ae:Option Addr) (n c B:Nat) (tx:ByteArray) (l:List Int) (w:World) (hs:SN.Ab s) (hl:Seen w B Ae n (l.map (Value.int .i64))) (hB:B<=w.heap.size) (hn:n<=100) (hnc:n<=c) (hlb: ∀x∈l, -1<=x/\x<=65535) (hF:DL w) (h:IsS w s v):Calls Tryz.prog 102 #[v,.agg #[.int .i64 kd,.int .i32 rn,.int .u8 pv,.int .u8 it,.int .u8 fn,.slice Ae n c,.string tx]] w (Au w (SN.V5 s pv it fn l)):=by
 unfold SN.V5
 by_cases hi:it=0
 ·subst hi
  by_cases hp:pv=0
  ·subst hp
   rw [if_neg (by omega),if_neg (by omega)]
   exact jH s _ v kd rn fn Ae n c B tx l w hs hl hB hn hnc hlb hF rfl h
  by_cases hq:pv=63
  ·subst hq
   rw [if_neg (by omega),if_pos rfl]
   by_cases h1:fn=104
   ·subst h1
    rw [if_pos rfl]
    exact ZQ s _ v kd rn Ae n c B tx l w hs hl hB hn hnc hlb rfl h
   by_cases h2:fn=108
   ·subst h2
    rw [if_neg (by omega),if_pos rfl]
    exact ZT s _ v kd rn Ae n c B tx l w hs hl hB hn hnc hlb rfl h
   rw [if_neg h1,if_neg h2]
   exact jI s _ v kd rn fn Ae n c B tx l w hs hl hB hn hnc hlb ⟨h1,h2⟩ rfl h
  rw [if_pos (.inr ⟨hp,hq⟩)]
  exact dZ s _ v kd rn pv fn Ae n c B tx l w hs hl hB hn hnc hlb ⟨hp,hq⟩ rfl h
 ·rw [if_pos (.inl hi)]
  exact dY s _ v kd rn pv it fn Ae n c B tx l w hs hl hB hn hnc hlb hi rfl h
end Go.Proofs.YtoaabebgmdbjeaaGreatDoor
namespace Go.Proofs.YtoaabebgmdbjeaaGreatDoor
open Go Go.RowKit
theorem jJ (s t:SN.Sc) (v:Value) (rn pv it fn:Int) (Ae:Option Addr) (n c B:Nat) (tx:ByteArray) (l:List Int) (w:World) (hs:SN.Ab s) (hl:Seen w B Ae n (l.map (Value.int .i64))) (hB:B<=w.heap.size) (hn:n<=100) (hnc:n<=c) (hlb: ∀x∈l, -1<=x/\x<=65535) (hr:0<=rn/\rn<=1114111) (hT:Jr w) (ht:SN.JM s rn=t) (h:IsS w s v):Calls Tryz.prog 58 #[v,.agg #[.int .i64 1,.int .i32 rn,.int .u8 pv,.int .u8 it,.int .u8 fn,.slice Ae n c,.string tx]] w (Au w t):=by
 obtain⟨x,rfl,hg⟩:=h
 obtain⟨A,cp,rfl⟩:=Ac hg
 have HG:=hide hg
 have hgr:=hs.g.2.1
 have hgc:=hs.g.2.2.2.1
 have hR1:=hs.g.1
 have hK1:=hs.g.2.2.1
 have hrow:=hs.row
 have Bv:=hs.col
 have AT:=hide (fun w' v' (hb:Below w.heap.size w w') h=>(show Calls Tryz.prog 28 #[v',.int .i32 rn] w' (Au w' t) from ht▸WU s v' rn w' hs hr.1 hr.2 (hT.keep hb) h))
 clear ht hs hg hl hlb hT
 go_enter Tryz.func58,Tryz.ntmps58
 go_upto_region 1 with (refine Dk HG _ rfl rfl rfl _ rfl rfl (fun _=>rfl) rfl rfl ?_;intro g gE gR w2 csR hsR HB2 HE2 HW2 HR2 HG2 hne FU FV hg1 Ai)
 clear HG
 obtain⟨e0,e1,e2,e3,e4,e5,e6⟩:=HE2.out.Bg
 go_wp2_with (refine AX HB2.out rfl _ rfl rfl ?_)
 refine(AT.out _ _ HW2.out ⟨_,rfl,HG2.out⟩).mono (Al HR2 HW2 fun A7 c7 w7 HR7 HW7 HG7=>?_)
 clear e0 e1 e2 e3 e4 e5 e6
 clear HB2 HR2 HW2 HG2 HE2
 go_wp2_with (refine AV HR7.out hsR rfl _ _ rfl rfl rfl rfl ?_;intro w8 hB8 hk8 hs8)
 exact BL rfl rfl rfl hB8 HG7 HR7 HW7 hk8 Ai
theorem jK (s t:SN.Sc) (v:Value) (rn pv it fn:Int) (Ae:Option Addr) (n c B:Nat) (tx:ByteArray) (l:List Int) (w:World) (hs:SN.Ab s) (hl:Seen w B Ae n (l.map (Value.int .i64))) (hB:B<=w.heap.size) (hn:n<=100) (hnc:n<=c) (hlb: ∀x∈l, -1<=x/\x<=65535) (hT:Jr w) (ht:SN.F5 s fn=t) (h:IsS w s v):Calls Tryz.prog 58 #[v,.agg #[.int .i64 2,.int .i32 rn,.int .u8 pv,.int .u8 it,.int .u8 fn,.slice Ae n c,.string tx]] w (Au w t):=by
 obtain⟨x,rfl,hg⟩:=h
 obtain⟨A,cp,rfl⟩:=Ac hg
 have HG:=hide hg
 have hgr:=hs.g.2.1
 have hgc:=hs.g.2.2.2.1
 have hR1:=hs.g.1
 have hK1:=hs.g.2.2.1
 have hrow:=hs.row
 have Bv:=hs.col
 have AT:=hide (fun w' v' (hb:Below w.heap.size w w') h=>(show Calls Tryz.prog 100 #[v',.int .u8 fn] w' (Au w' t) from ht▸ZK s v' fn w' hs (hT.mF.keep hb) h))
 clear ht hs hg hl hlb hT
 go_enter Tryz.func58,Tryz.ntmps58
 go_upto_region 1 with (refine Dk HG _ rfl rfl rfl _ rfl rfl (fun _=>rfl) rfl rfl ?_;intro g gE gR w2 csR hsR HB2 HE2 HW2 HR2 HG2 hne FU FV hg1 Ai)
 clear HG
 obtain⟨e0,e1,e2,e3,e4,e5,e6⟩:=HE2.out.Bg
 go_wp2_with (refine AX HB2.out rfl _ rfl rfl ?_)
 refine(AT.out _ _ HW2.out ⟨_,rfl,HG2.out⟩).mono (Al HR2 HW2 fun A7 c7 w7 HR7 HW7 HG7=>?_)
 clear e0 e1 e2 e3 e4 e5 e6
 clear HB2 HR2 HW2 HG2 HE2
 go_wp2_with (refine AV HR7.out hsR rfl _ _ rfl rfl rfl rfl ?_;intro w8 hB8 hk8 hs8)
 exact BL rfl rfl rfl hB8 HG7 HR7 HW7 hk8 Ai
theorem jL (s t:SN.Sc) (v:Value) (rn pv it fn:Int) (Ae:Option Addr) (n c B:Nat) (tx:ByteArray) (l:List Int) (w:World) (hs:SN.Ab s) (hl:Seen w B Ae n (l.map (Value.int .i64))) (hB:B<=w.heap.size) (hn:n<=100) (hnc:n<=c) (hlb: ∀x∈l, -1<=x/\x<=65535) (hT:Jr w) (ht:SN.FY s it fn=t) (h:IsS w s v):Calls Tryz.prog 58 #[v,.agg #[.int .i64 3,.int .i32 rn,.int .u8 pv,.int .u8 it,.int .u8 fn,.slice Ae n c,.string tx]] w (Au w t):=by
 obtain⟨x,rfl,hg⟩:=h
 obtain⟨A,cp,rfl⟩:=Ac hg
 have HG:=hide hg
 have hgr:=hs.g.2.1
 have hgc:=hs.g.2.2.2.1
 have hR1:=hs.g.1
 have hK1:=hs.g.2.2.1
 have hrow:=hs.row
 have Bv:=hs.col
 have AT:=hide (fun w' v' (hb:Below w.heap.size w w') h=>(show Calls Tryz.prog 101 #[v',.agg #[.int .i64 3,.int .i32 rn,.int .u8 pv,.int .u8 it,.int .u8 fn,.slice Ae n c,.string tx]] w' (Au w' t) from ht▸dW s v' 3 rn pv it fn Ae n c tx w' hs h))
 clear ht hs hg hl hlb hT
 go_enter Tryz.func58,Tryz.ntmps58
 go_upto_region 1 with (refine Dk HG _ rfl rfl rfl _ rfl rfl (fun _=>rfl) rfl rfl ?_;intro g gE gR w2 csR hsR HB2 HE2 HW2 HR2 HG2 hne FU FV hg1 Ai)
 clear HG
 obtain⟨e0,e1,e2,e3,e4,e5,e6⟩:=HE2.out.Bg
 go_wp2_with (refine AX HB2.out rfl _ rfl rfl ?_)
 refine(AT.out _ _ HW2.out ⟨_,rfl,HG2.out⟩).mono (Al HR2 HW2 fun A7 c7 w7 HR7 HW7 HG7=>?_)
 clear e0 e1 e2 e3 e4 e5 e6
 clear HB2 HR2 HW2 HG2 HE2
 go_wp2_with (refine AV HR7.out hsR rfl _ _ rfl rfl rfl rfl ?_;intro w8 hB8 hk8 hs8)
 exact BL rfl rfl rfl hB8 HG7 HR7 HW7 hk8 Ai
theorem jM (s t:SN.Sc) (v:Value) (rn pv it fn:Int) (Ae:Option Addr) (n c B:Nat) (tx:ByteArray) (l:List Int) (w:World) (hs:SN.Ab s) (hl:Seen w B Ae n (l.map (Value.int .i64))) (hB:B<=w.heap.size) (hn:n<=100) (hnc:n<=c) (hlb: ∀x∈l, -1<=x/\x<=65535) (hT:Jr w) (ht:SN.V5 s pv it fn l=t) (h:IsS w s v):Calls Tryz.prog 58 #[v,.agg #[.int .i64 4,.int .i32 rn,.int .u8 pv,.int .u8 it,.int .u8 fn,.slice Ae n c,.string tx]] w (Au w t):=by
 obtain⟨x,rfl,hg⟩:=h
 obtain⟨A,cp,rfl⟩:=Ac hg
 have HG:=hide hg
 have hgr:=hs.g.2.1
 have hgc:=hs.g.2.2.2.1
 have hR1:=hs.g.1
 have hK1:=hs.g.2.2.1
 have hrow:=hs.row
 have Bv:=hs.col
 have AT:=hide (fun w' v' (hb:Below w.heap.size w w') h=>(show Calls Tryz.prog 102 #[v',.agg #[.int .i64 4,.int .i32 rn,.int .u8 pv,.int .u8 it,.int .u8 fn,.slice Ae n c,.string tx]] w' (Au w' t) from ht▸dh s v' 4 rn pv it fn Ae n c B tx l w' hs (hl.below (hb.mono hB)) (Nat.le_trans hB hb.size) hn hnc hlb (hT.flags.keep hb) h))
 clear ht hs hg hl hlb hT
 go_enter Tryz.func58,Tryz.ntmps58
 go_upto_region 1 with (refine Dk HG _ rfl rfl rfl _ rfl rfl (fun _=>rfl) rfl rfl ?_;intro g gE gR w2 csR hsR HB2 HE2 HW2 HR2 HG2 hne FU FV hg1 Ai)
 clear HG
 obtain⟨e0,e1,e2,e3,e4,e5,e6⟩:=HE2.out.Bg
 go_wp2_with (refine AX HB2.out rfl _ rfl rfl ?_)
 refine(AT.out _ _ HW2.out ⟨_,rfl,HG2.out⟩).mono (Al HR2 HW2 fun A7 c7 w7 HR7 HW7 HG7=>?_)
 clear e0 e1 e2 e3 e4 e5 e6
 clear HB2 HR2 HW2 HG2 HE2
 go_wp2_with (refine AV HR7.out hsR rfl _ _ rfl rfl rfl rfl ?_;intro w8 hB8 hk8 hs8)
 exact BL rfl rfl rfl hB8 HG7 HR7 HW7 hk8 Ai
theorem dn (s t:SN.Sc) (v:Value) (kd rn pv it fn:Int) (Ae:Option Addr) (n c B:Nat) (tx:ByteArray) (l:List Int) (w:World) (hs:SN.Ab s) (hl:Seen w B Ae n (l.map (Value.int .i64))) (hB:B<=w.heap.size) (hn:n<=100) (hnc:n<=c) (hlb: ∀x∈l, -1<=x/\x<=65535) (hk:kd≠1/\kd≠2/\kd≠3/\kd≠4) (hT:Jr w) (ht:s=t) (h:IsS w s v):Calls Tryz.prog 58 #[v,.agg #[.int .i64 kd,.int .i32 rn,.int .u8 pv,.int .u8 it,.int .u8 fn,.slice Ae n c,.string tx]] w (Au w t):=by
 obtain⟨x,rfl,hg⟩:=h
 obtain⟨A,cp,rfl⟩:=Ac hg
 have HG:=hide hg
 have hgr:=hs.g.2.1
 have hgc:=hs.g.2.2.2.1
 have hR1:=hs.g.1
 have hK1:=hs.g.2.2.1
 have hrow:=hs.row
 have Bv:=hs.col
 have q1:(kd==1)=false:=by simp;omega
 have q2:(kd==2)=false:=by simp;omega
 have q3:(kd==3)=false:=by simp;omega
 have q4:(kd==4)=false:=by simp;omega
 clear hk
 subst ht
 clear hs hg hl hlb hT
 go_enter Tryz.func58,Tryz.ntmps58
 go_upto_region 1 with (refine Dk HG _ rfl rfl rfl _ rfl rfl (fun _=>rfl) rfl rfl ?_;intro g gE gR w2 csR hsR HB2 HE2 HW2 HR2 HG2 hne FU FV hg1 Ai)
 clear HG
 obtain⟨e0,e1,e2,e3,e4,e5,e6⟩:=HE2.out.Bg
 go_wp2_with (first | (refine AX HB2.out rfl _ rfl rfl ?_) | (refine AV HR2.out hsR rfl _ _ rfl rfl rfl rfl ?_;intro w8 hB8 hk8 hs8))
 exact BL rfl rfl rfl hB8 HG2 HR2 HW2 hk8 Ai
theorem dw (s:SN.Sc) (v:Value) (kd rn pv it fn:Int) (Ae:Option Addr) (n c B:Nat) (tx:ByteArray) (l:List Int) (w:World) (hs:SN.Ab s) (hl:Seen w B Ae n (l.map (Value.int .i64))) (hB:B<=w.heap.size) (hn:n<=100) (hnc:n<=c) (hlb: ∀x∈l, -1<=x/\x<=65535) (hr:kd=1->0<=rn/\rn<=1114111) (hT:Jr w) (h:IsS w s v):Calls Tryz.prog 58 #[v,.agg #[.int .i64 kd,.int .i32 rn,.int .u8 pv,.int .u8 it,.int .u8 fn,.slice Ae n c,.string tx]] w (Au w (SN.doS s kd rn pv it fn l)):=by
 unfold SN.doS
 by_cases h1:kd=1
 ·subst h1
  rw [if_pos rfl]
  exact jJ s _ v rn pv it fn Ae n c B tx l w hs hl hB hn hnc hlb (hr rfl) hT rfl h
 rw [if_neg h1]
 by_cases h2:kd=2
 ·subst h2
  rw [if_pos rfl]
  exact jK s _ v rn pv it fn Ae n c B tx l w hs hl hB hn hnc hlb hT rfl h
 rw [if_neg h2]
 by_cases h3:kd=3
 ·subst h3
  rw [if_pos rfl]
  exact jL s _ v rn pv it fn Ae n c B tx l w hs hl hB hn hnc hlb hT rfl h
 rw [if_neg h3]
 by_cases h4:kd=4
 ·subst h4
  rw [if_pos rfl]
  exact jM s _ v rn pv it fn Ae n c B tx l w hs hl hB hn hnc hlb hT rfl h
 rw [if_neg h4]
 exact dn s _ v kd rn pv it fn Ae n c B tx l w hs hl hB hn hnc hlb ⟨h1,h2,h3,h4⟩ hT rfl h
def fH (v:Value):Prop:= ∀A k c,v=.slice A k c->k<=c
theorem mK {A:Option Addr} {k c:Nat} (h:k<=c):fH (.slice A k c):=fun _ _ _ e=>by
 cases e
 exact h
theorem SN.ZU (s:SN.Sc) {M:List (PA.Ev × Value)} {j:Nat} {q:PA.Ev × Value} (h:M[j]? =some q):SN.DW s ((M.take (j+1)).map (·.1))=SN.cu (SN.DW s ((M.take j).map (·.1))) q.1:=by
 rw [List.take_add_one,h]
 simp only [Option.toList_some,List.map_append,List.map_cons,List.map_nil]
 exact SN.Sm s _ _
theorem dx (s:SN.Sc) (v:Value) (A:Option Addr) (n c:Nat) (M:List (PA.Ev × Value)) (w:World) (hs:SN.Ab s) (hE:Lu w A n M) (hn:n<=1000000) (hF: ∀p∈M,(p.1.kind=1->0<=p.1.rune/\p.1.rune<=1114111)/\p.1.params.length<=100/\ ∀x∈p.1.params, -1<=x/\x<=65535) (hC: ∀p∈M,fH p.2) (hT:Jr w) (h:IsS w s v):
  Calls Tryz.prog 24 #[v,.slice A n c] w (Au w (SN.DW s (M.map (·.1)))):=by
 obtain⟨x,rfl,hg⟩:=h
 obtain⟨A0,cp,rfl⟩:=Ac hg
 have HG:=hide hg
 have HS:=hide hs
 have HE:=hide hE
 have HF:=hide hF
 have HC:=hide hC
 have HT:=hide hT
 have SC:=hide (fun w' v' h=>Ew s v' hs w' h)
 clear hs hg hE hF hC hT
 go_enter Tryz.func24,Tryz.ntmps24
 go_upto_region 1 with (refine BM HG _ rfl rfl rfl rfl rfl ?_;intro g gR w2 csR hsR HB2 HW2 HR2 HG2 hne hg1 Ai)
 clear HG
 go_wp2_with (refine AX HB2.out rfl _ rfl rfl ?_)
 refine(SC.out _ _ ⟨_,rfl,HG2.out⟩).mono ?_
 rintro e w3 ⟨v3,rfl,⟨x3,rfl,hg3⟩,hb3⟩
 obtain⟨A3,c3,rfl⟩:=Ac hg3
 have HB3:=hide (HB2.out.below hb3 HB2.out.lt)
 have HR3:=hide (HR2.out.below hb3 HR2.out.lt)
 have HW3:=hide (HW2.out.trans (hb3.mono HW2.out.size))
 have HG3:=hide hg3
 clear hb3 hg3 HB2 HR2 HW2 HG2 SC
 go_upto_region 2 with (refine AV HB3.out rfl rfl _ _ rfl rfl rfl rfl ?_;intro w4 hB4 hk4 hs4)
 have HB4:=hide hB4
 have HR4:=hide (HR3.out.kept hk4 (by simp;exact hne))
 have HW4:=hide (HW3.out.trans (hk4.toBelow HW3.out.size (fun k hh=>by simp at hh;omega)))
 have HG4:=hide (HG3.out.kept HB3.out (by decide) hk4)
 clear hB4 hk4 hs4 HB3 HR3 HW3 HG3
 go_wp2_with fail
 go_loopw [11] (fun i wr=> ∃j:Nat,j<=n/\i=.int .i64 j/\Hid (∃A0 c0,Aj wr g (.slice A0 ((SN.DW s ((M.take j).map (·.1))).g.rows*(SN.DW s ((M.take j).map (·.1))).g.AB) c0) (SN.DW s ((M.take j).map (·.1)))/\IsG wr (SN.DW s ((M.take j).map (·.1))).g (gv (SN.DW s ((M.take j).map (·.1))).g.rows (SN.DW s ((M.take j).map (·.1))).g.AB (.slice A0 ((SN.DW s ((M.take j).map (·.1))).g.rows*(SN.DW s ((M.take j).map (·.1))).g.AB) c0)))/\Hid (Box wr gR 43 csR)/\Hid (Below w.heap.size w wr)) (fun i _=>n-(intOf i).toNat)
 case atStart=>exact⟨0,Nat.zero_le _,rfl,hide ⟨A3,c3,(show Aj w4 g _ (SN.DW s ((M.take 0).map (·.1))) from HB4.out),HG4.out⟩,HR4,HW4⟩
 case round=>
  obtain⟨j,hj,rfl,HX,HR,HW⟩:=hrel
  obtain⟨A5,c5,hB5,hG5⟩:=HX.out
  have HB5:=hide hB5
  have HG5:=hide hG5
  clear HX hB5 hG5 HB4 HR4 HW4 HG4
  by_cases hjn:j<n
  ·obtain⟨q,hq⟩: ∃q,M[j]? =some q:=⟨_,List.getElem?_eq_getElem (by rw [HE.out.1];exact hjn)⟩
   obtain⟨gb,hA',hgb,hcc,Ap,cp2,hpu,hps,hle⟩:=HE.out.2 j q hq
   have hfit:=HF.out q (List.mem_of_getElem? hq)
   have hcap:=HC.out q (List.mem_of_getElem? hq)
   have HTE:=SN.ZU s hq
   obtain⟨e,u⟩:=q
   simp only [] at hcc hpu hps hle hfit hcap HTE
   subst hpu hA'
   obtain⟨e0,e1,e2,e3,e4,el,et⟩:=e
   simp only [] at hcc hps hle
   have b0:=HW.out
   have cb: ∀k u,(Gw ⟨e0,e1,e2,e3,e4,el,et⟩ (.slice Ap el.length cp2))[k]? =some u->wr.cell? ⟨gb,j*7+k,none⟩=some u:=fun k u hu=>(b0.cell (p:=⟨gb,j*7+k,none⟩) hgb).trans (hcc k u hu)
   have c0:wr.cell? ⟨gb,j*7,none⟩=some (.int .i64 e0):=cb 0 _ rfl
   have c1:wr.cell? ⟨gb,j*7+1,none⟩=some (.int .i32 e1):=cb 1 _ rfl
   have c2:wr.cell? ⟨gb,j*7+2,none⟩=some (.int .u8 e2):=cb 2 _ rfl
   have c3':wr.cell? ⟨gb,j*7+3,none⟩=some (.int .u8 e3):=cb 3 _ rfl
   have c4:wr.cell? ⟨gb,j*7+4,none⟩=some (.int .u8 e4):=cb 4 _ rfl
   have c5':wr.cell? ⟨gb,j*7+5,none⟩=some (.slice Ap el.length cp2):=cb 5 _ rfl
   have c6:wr.cell? ⟨gb,j*7+6,none⟩=some (.string (strOfNums et)):=cb 6 _ rfl
   have hl16:el.length<=100:=hfit.2.1
   have hcap2:el.length<=cp2:=hcap _ _ _ rfl
   clear hcap
   have MD:=fun (w':World) v' (hb:Below w.heap.size w w') h=>dw (SN.DW s ((M.take j).map (·.1))) v' e0 e1 e2 e3 e4 Ap el.length cp2 w.heap.size (strOfNums et) el w' (SN.Qf HS.out _) (hps.below hb) hb.size (by omega) hcap2 hfit.2.2 (fun e=>hfit.1 e) (HT.out.keep hb) h
   rw [<- show SN.DW s ((M.take (j+1)).map (·.1))=SN.doS (SN.DW s ((M.take j).map (·.1))) e0 e1 e2 e3 e4 el from HTE] at MD
   obtain⟨T1,hT1⟩: ∃T1,SN.DW s ((M.take (j+1)).map (·.1))=T1:=⟨_,rfl⟩
   obtain⟨T0,hT0⟩: ∃T0,(SN.DW s ((M.take j).map (·.1)))=T0:=⟨_,rfl⟩
   rw [hT1,hT0] at MD
   rw [hT0] at HB5 HG5
   have MD:=hide MD
   have ET1:=hide hT1
   have hbx:=Box.new wr 34 #[.int .i64 e0,.int .i32 e1,.int .u8 e2,.int .u8 e3,.int .u8 e4,.slice Ap el.length cp2,.string (strOfNums et)]
   have HBX:=hide ((Below.refl wr.heap.size wr).alloc (Nat.le_refl _) (.cells #[.int .i64 e0,.int .i32 e1,.int .u8 e2,.int .u8 e3,.int .u8 e4,.slice Ap el.length cp2,.string (strOfNums et)] 34))
   clear hT1 hT0 HTE cb hcc hps hle hfit hq b0
   go_wp2_with (refine AX (HB5.out.below HBX.out HB5.out.lt) rfl _ rfl rfl ?_)
   refine(MD.out _ _ (HW.out.trans (HBX.out.mono HW.out.size)) ⟨_,rfl,HG5.out.low HBX.out⟩).mono ?_
   rintro e w5 ⟨v5,rfl,⟨x5,rfl,hg5⟩,hb5⟩
   obtain⟨A6,c6',rfl⟩:=Ac hg5
   have dz:=HBX.out.trans (hb5.mono HBX.out.size)
   have HB6:=hide (HB5.out.below dz HB5.out.lt)
   have HR6:=hide (HR.out.below dz HR.out.lt)
   have HW6:=hide (HW.out.trans (dz.mono HW.out.size))
   have HG6:=hide hg5
   clear hg5 hb5 dz HB5 HG5 HR HW c0 c1 c2 c3' c4 c5' c6 hbx HBX MD
   go_wp2_with (refine AV HB6.out rfl rfl _ _ rfl rfl rfl rfl ?_;intro w6 hB6 hk6 hs6)
   go_roundw
   case rel=>
    refine⟨j+1,by omega,by go_num,hide ?_,hide (HR6.out.kept hk6 (by simp;exact hne)),hide (HW6.out.trans (hk6.toBelow HW6.out.size (fun k hh=>by simp at hh;omega)))⟩
    rw [ET1.out]
    exact⟨A6,c6',hB6,HG6.out.kept HB6.out (by decide) hk6⟩
   case measure=>simp [intOf];omega
  ·have hjl:j=n:=by omega
   have HTN:=hide (show(SN.DW s ((M.take j).map (·.1)))=SN.DW s (M.map (·.1)) by rw [hjl, <- HE.out.1,List.take_length])
   obtain⟨TT,hTT⟩: ∃TT,SN.DW s (M.map (·.1))=TT:=⟨_,rfl⟩
   rw [HTN.out,hTT] at HB5 HG5
   have ETT:=hide hTT
   clear HTN hTT
   have hjn2: ¬(j:Int)<(n:Int):=by omega
   clear hjl
   go_wp2_with (first | (refine AX HB5.out rfl _ rfl rfl ?_) | (refine AV HR.out hsR rfl _ _ rfl rfl rfl rfl ?_;intro w8 hB8 hk8 hs8))
   have htt:=ETT.out
   subst htt
   exact BL rfl rfl rfl hB8 HG5 HR HW hk8 Ai
theorem d9 (s:ByteArray): ∃t:List Int,strOfNums t=s/\(∀x∈t,0<=x/\x<256)/\t.length=s.size:=by
 refine⟨s.data.toList.map fun b=>(b.toNat:Int),?_,fun x hx=>?_,by rw [List.length_map];rfl⟩
 ·apply ByteArray.ext
  apply Array.ext'
  simp only [strOfNums,List.map_map]
  conv=>rhs;rw [<- List.map_id s.data.toList]
  refine List.map_congr_left fun b _=>?_
  simp
 ·obtain⟨b,_,rfl⟩:=List.mem_map.1 hx
  have:=b.toNat_lt
  omega
theorem ZV (s:SN.Sc) (v:Value) (kd rn pv it fn:Int) (Ae:Option Addr) (n c B:Nat) (tx:ByteArray) (l:List Int) (g:Nat) (w:World) (hs:SN.Ab s) (hl:Seen w B Ae n (l.map (Value.int .i64))) (hB:B<=w.heap.size) (hn:n<=100) (hnc:n<=c) (hlb: ∀x∈l, -1<=x/\x<=65535) (hr:kd=1->0<=rn/\rn<=1114111) (hT:Jr w) (hx:Box w g 34 #[.int .i64 kd,.int .i32 rn,.int .u8 pv,.int .u8 it,.int .u8 fn,.slice Ae n c,.string tx]) (h:IsS w s v):
  Calls Tryz.prog 24 #[v,.slice (some ⟨g,0,none⟩) 1 1] w (Au w (SN.doS s kd rn pv it fn l)):=by
 obtain⟨t,ht,_,_⟩:=d9 tx
 subst ht
 have hlen:l.length=n:=by have:=hl.1;simpa using this
 subst hlen
 refine dx s v (some ⟨g,0,none⟩) 1 1 [(⟨kd,rn,pv,it,fn,l,t⟩,.slice Ae l.length c)] w hs ⟨rfl,fun k p hk=>⟨g,rfl,hx.lt,fun j u hu=>?_,?_⟩⟩ (by omega) (fun p hp=>?_) (fun p hp=>?_) hT h
 ·rw [hx.cell, <- Array.getElem?_toList]
  exact J8 [(⟨kd,rn,pv,it,fn,l,t⟩,.slice Ae l.length c)] k j p u hk hu
 ·have hp:=List.mem_of_getElem? hk
  simp only [List.mem_singleton] at hp
  subst hp
  exact⟨Ae,c,rfl,hl.more hB,Nat.le_trans hn (by omega)⟩
 ·simp only [List.mem_singleton] at hp
  subst hp
  exact⟨hr,hn,hlb⟩
 ·simp only [List.mem_singleton] at hp
  subst hp
  exact mK hnc
theorem jN (s t:SN.Sc) (v:Value) (kd rn pv it fn:Int) (Ae:Option Addr) (n c:Nat) (tx:ByteArray) (w:World) (hs:SN.Ab s) (AL: ∀(g:Nat) (w':World) (v':Value),Below w.heap.size w w'->Box w' g 34 #[.int .i64 kd,.int .i32 rn,.int .u8 pv,.int .u8 it,.int .u8 fn,.slice Ae n c,.string tx] ->IsS w' s v'->Calls Tryz.prog 24 #[v',.slice (some ⟨g,0,none⟩) 1 1] w' (Au w' t)) (h:IsS w s v):
  Calls Tryz.prog 15 #[v,.agg #[.int .i64 kd,.int .i32 rn,.int .u8 pv,.int .u8 it,.int .u8 fn,.slice Ae n c,.string tx]] w (Au w t):=by
 obtain⟨x,rfl,hg⟩:=h
 obtain⟨A,cp,rfl⟩:=Ac hg
 have HG:=hide hg
 have ALH:=hide AL
 clear hg AL hs
 go_enter Tryz.func15,Tryz.ntmps15
 go_upto_region 1 with (refine Dk HG _ rfl rfl rfl _ rfl rfl (fun _=>rfl) rfl rfl ?_;intro g gE gR w2 csR hsR HB2 HE2 HW2 HR2 HG2 hne FU FV hg1 Ai)
 clear HG
 obtain⟨e0,e1,e2,e3,e4,e5,e6⟩:=HE2.out.Bg
 go_wp2_with (refine AX HB2.out rfl _ rfl rfl ?_)
 have hbx:=(Below.refl w2.heap.size w2).alloc (Nat.le_refl _) (.cells #[.int .i64 kd,.int .i32 rn,.int .u8 pv,.int .u8 it,.int .u8 fn,.slice Ae n c,.string tx] 34)
 refine(ALH.out w2.heap.size _ _ (HW2.out.trans (hbx.mono HW2.out.size)) (Box.new w2 _ _) ⟨_,rfl,HG2.out.low hbx⟩).mono ?_
 rintro e w7 ⟨v7,rfl,⟨x7,rfl,hg7⟩,hb7⟩
 obtain⟨A7,c7,rfl⟩:=Ac hg7
 have jO:=hbx.trans (hb7.mono hbx.size)
 have HR7:=hide (HR2.out.below jO HR2.out.lt)
 have HW7:=hide (HW2.out.trans (jO.mono HW2.out.size))
 have HG7:=hide hg7
 clear hb7 jO hbx hg7 HB2 HR2 HW2 HG2 HE2 e0 e1 e2 e3 e4 e5 e6
 go_wp2_with (refine AV HR7.out hsR rfl _ _ rfl rfl rfl rfl ?_;intro w8 hB8 hk8 hs8)
 exact BL rfl rfl rfl hB8 HG7 HR7 HW7 hk8 Ai
theorem TY (s:SN.Sc) (v:Value) (kd rn pv it fn:Int) (Ae:Option Addr) (n c B:Nat) (tx:ByteArray) (l:List Int) (w:World) (hs:SN.Ab s) (hl:Seen w B Ae n (l.map (Value.int .i64))) (hB:B<=w.heap.size) (hn:n<=100) (hnc:n<=c) (hlb: ∀x∈l, -1<=x/\x<=65535) (hr:kd=1->0<=rn/\rn<=1114111) (hT:Jr w) (h:IsS w s v):
  Calls Tryz.prog 15 #[v,.agg #[.int .i64 kd,.int .i32 rn,.int .u8 pv,.int .u8 it,.int .u8 fn,.slice Ae n c,.string tx]] w (Au w (SN.doS s kd rn pv it fn l)):=
 jN s _ v kd rn pv it fn Ae n c tx w hs (fun g w' v' hb hx h'=>ZV s v' kd rn pv it fn Ae n c B tx l g w' hs (hl.below (hb.mono hB)) (Nat.le_trans hB hb.size) hn hnc hlb hr (hT.keep hb) hx h') h
def Nq (w0:World) (sv pv av:Value) (E1 E2:Value->World->Prop) (L:Nat->Bool) (u:Nat->Value) (w:World):Prop:=
 (L 0=true->u 0=sv)/\(L 1=true->u 1=pv)/\(L 2=true->u 2=av)/\(L 3=false->L 4=false/\Below w0.heap.size w0 w)/\(L 3=true->L 4=false->E1 (u 3) w)/\(L 4=true->E2 (u 4) w)
section
variable {w0 w w':World} {sv pv av:Value} {E1 E2:Value->World->Prop} {L:Nat->Bool} {u:Nat->Value}
theorem Nq.same {u':Nat->Value} (h:Nq w0 sv pv av E1 E2 L u w) (e: ∀j,j<6->u j=u' j):Nq w0 sv pv av E1 E2 L u' w:=by
 obtain⟨a,b,c,d,f,g⟩:=h
 rw [e 0 (by decide)] at a
 rw [e 1 (by decide)] at b
 rw [e 2 (by decide)] at c
 rw [e 3 (by decide)] at f
 rw [e 4 (by decide)] at g
 exact⟨a,b,c,d,f,g⟩
theorem Nq.Hz (h:Nq w0 sv pv av E1 E2 L u w):Nq w0 sv pv av E1 E2 (mark L 1) (upd u 1 pv) w:=by
 obtain⟨a,b,c,d,f,g⟩:=h
 exact⟨a,fun _=>rfl,c,d,f,g⟩
end
end Go.Proofs.YtoaabebgmdbjeaaGreatDoor
namespace Go.Proofs.YtoaabebgmdbjeaaGreatDoor
open Go.RowKit
namespace PG
def Gone (all:Bool) (r c k y x:Nat):Prop:=((k=0/\(r<y\/(y=r/\c<=x)))\/(k=1/\(y<r\/(y=r/\x<=c)))\/k=2)/\(all=true\/y=r)
instance (all:Bool) (r c k y x:Nat):Decidable (Gone all r c k y x):=inferInstanceAs (Decidable (_/\_))
def Near (r c y x:Nat):Prop:=y=r/\(x+1=c\/x=c+1)
instance (r c y x:Nat):Decidable (Near r c y x):=inferInstanceAs (Decidable (_/\_))
end PG
namespace SN
end SN
end Go.Proofs.YtoaabebgmdbjeaaGreatDoor
namespace Go.Proofs.YtoaabebgmdbjeaaGreatDoor
open Go Go.RowKit
end Go.Proofs.YtoaabebgmdbjeaaGreatDoor
