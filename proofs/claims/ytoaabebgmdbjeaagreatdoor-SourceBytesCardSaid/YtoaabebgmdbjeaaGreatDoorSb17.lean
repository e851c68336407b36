/- A part of the proof: SourcePrint, ModesUse, RefMode, RefModes, RefApply10, Roomy64, PenTold. -/
import Derived.Test.YtoaabebgmdbjeaaGreatDoorSb16
import Derived.Deep.CutBlock
import Derived.Laws.CopyOwn
set_option maxRecDepth 100000
set_option maxHeartbeats 16000000
set_option linter.unusedVariables false
namespace Go.Proofs.YtoaabebgmdbjeaaGreatDoor
open Go Go.RowKit
theorem XA (s:SN.Sc) (v:Value) (r p:Int) (hp:SN.Gi s r=p) (w:World) (hs:SN.Ac s) (hr0:0<=r) (hr1:r<=1114111) (hT:GZ w) (h:IsS w s v):
  Calls Tryz.prog 62 #[v,.int .i32 r] w fun e w'=>e=.returned (.int .i32 p)/\Below w.heap.size w w':=by
 obtain⟨x,rfl,hg⟩:=h
 obtain⟨A,cp,rfl⟩:=Ad hg
 unfold SN.Gi SN.Y3 at hp
 have HD:=hide (fun w' (hb:Below w.heap.size w w') (h0:0<=r) (h1:r<256)=>ZG r w' h0 h1 (hT.keep hb))
 clear hT
 rcases hs.set.2.2 with e0 | e0
 ·have e0':s.s0=(if s.sh=0 then s.s0 else s.s1):=by rw [e0];rfl
  rw [<- e0'] at hp
  clear e0'
  rcases hs.set.1 with ez | ez
  ·obtain rfl:r=p:=by rw [if_neg (by omega)] at hp;exact hp
   clear hp hs hg
   go_enter Tryz.func62,Tryz.ntmps62
   go_upto_region 1 with (first | (refine BO rfl _ rfl rfl ?_;intro g w1 hB hb1 hg1))
   have k12:w1.cell? ⟨g,12,none⟩=some (.int .u8 66):=hB.c12.trans (by rw [ez])
   have k13:w1.cell? ⟨g,13,none⟩=some (.int .u8 s.s1):=hB.c13
   have k14:w1.cell? ⟨g,14,none⟩=some (.int .i64 0):=hB.c14.trans (by rw [e0])
   clear hB
   go_wp2_with fail
   go_ret
   exact⟨rfl,hb1⟩
  ·by_cases hc:95<=r/\r<=126
   ·rw [if_pos ⟨ez,hc.1,hc.2⟩] at hp
    subst hp
    have hc1:=hc.1
    have hc2:=hc.2
    have hw8:IntKind.u8.wrap r=r:=by rw [IntKind.wrap_u8] <;>omega
    clear hs hg hc
    go_enter Tryz.func62,Tryz.ntmps62
    go_upto_region 1 with (first | (refine BO rfl _ rfl rfl ?_;intro g w1 hB hb1 hg1))
    have k12:w1.cell? ⟨g,12,none⟩=some (.int .u8 48):=hB.c12.trans (by rw [ez])
    have k13:w1.cell? ⟨g,13,none⟩=some (.int .u8 s.s1):=hB.c13
    have k14:w1.cell? ⟨g,14,none⟩=some (.int .i64 0):=hB.c14.trans (by rw [e0])
    clear hB
    have hd:=hide (HD.out w1 hb1 (by omega) (by omega))
    go_wp2_with fail
    refine hd.out.mono ?_
    rintro e w2 ⟨rfl,hb2⟩
    go_wp2_with fail
    go_ret
    exact⟨rfl,hb1.trans (hb2.mono hb1.size)⟩
   ·obtain rfl:r=p:=by rw [if_neg (by omega)] at hp;exact hp
    clear hp hs hg
    by_cases h95:95<=r
    ·have h126: ¬r<=126:=by omega
     clear hc
     go_enter Tryz.func62,Tryz.ntmps62
     go_upto_region 1 with (first | (refine BO rfl _ rfl rfl ?_;intro g w1 hB hb1 hg1))
     have k12:w1.cell? ⟨g,12,none⟩=some (.int .u8 48):=hB.c12.trans (by rw [ez])
     have k13:w1.cell? ⟨g,13,none⟩=some (.int .u8 s.s1):=hB.c13
     have k14:w1.cell? ⟨g,14,none⟩=some (.int .i64 0):=hB.c14.trans (by rw [e0])
     clear hB
     go_wp2_with fail
     go_ret
     exact⟨rfl,hb1⟩
    ·clear hc
     go_enter Tryz.func62,Tryz.ntmps62
     go_upto_region 1 with (first | (refine BO rfl _ rfl rfl ?_;intro g w1 hB hb1 hg1))
     have k12:w1.cell? ⟨g,12,none⟩=some (.int .u8 48):=hB.c12.trans (by rw [ez])
     have k13:w1.cell? ⟨g,13,none⟩=some (.int .u8 s.s1):=hB.c13
     have k14:w1.cell? ⟨g,14,none⟩=some (.int .i64 0):=hB.c14.trans (by rw [e0])
     clear hB
     go_wp2_with fail
     go_ret
     exact⟨rfl,hb1⟩
 ·have e0':s.s1=(if s.sh=0 then s.s0 else s.s1):=by rw [e0];rfl
  rw [<- e0'] at hp
  clear e0'
  rcases hs.set.2.1 with ez | ez
  ·obtain rfl:r=p:=by rw [if_neg (by omega)] at hp;exact hp
   clear hp hs hg
   go_enter Tryz.func62,Tryz.ntmps62
   go_upto_region 1 with (first | (refine BO rfl _ rfl rfl ?_;intro g w1 hB hb1 hg1))
   have k12:w1.cell? ⟨g,12,none⟩=some (.int .u8 s.s0):=hB.c12
   have k13:w1.cell? ⟨g,13,none⟩=some (.int .u8 66):=hB.c13.trans (by rw [ez])
   have k14:w1.cell? ⟨g,14,none⟩=some (.int .i64 1):=hB.c14.trans (by rw [e0])
   clear hB
   go_wp2_with fail
   go_ret
   exact⟨rfl,hb1⟩
  ·by_cases hc:95<=r/\r<=126
   ·rw [if_pos ⟨ez,hc.1,hc.2⟩] at hp
    subst hp
    have hc1:=hc.1
    have hc2:=hc.2
    have hw8:IntKind.u8.wrap r=r:=by rw [IntKind.wrap_u8] <;>omega
    clear hs hg hc
    go_enter Tryz.func62,Tryz.ntmps62
    go_upto_region 1 with (first | (refine BO rfl _ rfl rfl ?_;intro g w1 hB hb1 hg1))
    have k12:w1.cell? ⟨g,12,none⟩=some (.int .u8 s.s0):=hB.c12
    have k13:w1.cell? ⟨g,13,none⟩=some (.int .u8 48):=hB.c13.trans (by rw [ez])
    have k14:w1.cell? ⟨g,14,none⟩=some (.int .i64 1):=hB.c14.trans (by rw [e0])
    clear hB
    have hd:=hide (HD.out w1 hb1 (by omega) (by omega))
    go_wp2_with fail
    refine hd.out.mono ?_
    rintro e w2 ⟨rfl,hb2⟩
    go_wp2_with fail
    go_ret
    exact⟨rfl,hb1.trans (hb2.mono hb1.size)⟩
   ·obtain rfl:r=p:=by rw [if_neg (by omega)] at hp;exact hp
    clear hp hs hg
    by_cases h95:95<=r
    ·have h126: ¬r<=126:=by omega
     clear hc
     go_enter Tryz.func62,Tryz.ntmps62
     go_upto_region 1 with (first | (refine BO rfl _ rfl rfl ?_;intro g w1 hB hb1 hg1))
     have k12:w1.cell? ⟨g,12,none⟩=some (.int .u8 s.s0):=hB.c12
     have k13:w1.cell? ⟨g,13,none⟩=some (.int .u8 48):=hB.c13.trans (by rw [ez])
     have k14:w1.cell? ⟨g,14,none⟩=some (.int .i64 1):=hB.c14.trans (by rw [e0])
     clear hB
     go_wp2_with fail
     go_ret
     exact⟨rfl,hb1⟩
    ·clear hc
     go_enter Tryz.func62,Tryz.ntmps62
     go_upto_region 1 with (first | (refine BO rfl _ rfl rfl ?_;intro g w1 hB hb1 hg1))
     have k12:w1.cell? ⟨g,12,none⟩=some (.int .u8 s.s0):=hB.c12
     have k13:w1.cell? ⟨g,13,none⟩=some (.int .u8 48):=hB.c13.trans (by rw [ez])
     have k14:w1.cell? ⟨g,14,none⟩=some (.int .i64 1):=hB.c14.trans (by rw [e0])
     clear hB
     go_wp2_with fail
     go_ret
     exact⟨rfl,hb1⟩
theorem SN.iU (T:SN.Sc) (p:Int) (m c0 c1:Nat) (q:Bool) (hc0:SN.EF T m=c0) (hq:q=decide (T.g.AB<=c0+m)) (hc1:c1=if T.g.AB<=c0+m then T.g.AB-1 else c0+m) (wr:Bool) (hwr:T.wrap=wr):
  SN.EJ T p m=((((T.u4 c0).uG (PG.EL T.g T.row c0 p T.pen)).u5 (wr&&q)).u4 c1):=by
 unfold SN.EJ
 rw [hc0]
 by_cases h:T.g.AB<=c0+m
 ·rw [if_pos h] at hc1⊢
  rw [decide_eq_true h] at hq
  subst hq hc1
  rw [hwr,Bool.and_true]
  rfl
 ·rw [if_neg h] at hc1⊢
  rw [decide_eq_false h] at hq
  subst hq hc1
  rw [Bool.and_false]
  rfl
theorem SN.qg (T:SN.Sc) (p:Int) (m c0:Nat) (hc0:SN.EF T m=c0):(SN.EJ T p m).g=PG.EL T.g T.row c0 p T.pen:=by
 unfold SN.EJ
 rw [hc0]
 split<;>rfl
theorem XB (s:SN.Sc) (v:Value) (r:Int) (w:World) (hs:SN.Ac s) (hr0:0<=r) (hr1:r<=1114111) (hT:Hq w) (h:IsS w s v):Calls Tryz.prog 28 #[v,.int .i32 r] w (BD w (SN.JK s r)):=by
 obtain⟨x,rfl,hg⟩:=h
 obtain⟨A,cp,rfl⟩:=Ad hg
 have HG:=hide hg
 have hgr:=hs.g.2.1
 have hgc:=hs.g.2.2.2.1
 have hR1:=hs.g.1
 have hK1:=hs.g.2.2.1
 have hrow:=hs.row
 have CJ:=hs.col
 obtain⟨p,hp⟩: ∃p,SN.Gi s r=p:=⟨_,rfl⟩
 have hpb:=SN.Vy hr0 hr1 hp
 have hwb:=PG.FX p
 obtain⟨m,hm⟩: ∃m:Nat,C.width p=(m:Int):=⟨(C.width p).toNat,by omega⟩
 have DR:=hide (fun w' v' (hb:Below w.heap.size w w') h=>XA s v' r p hp w' hs hr0 hr1 (hT.signs.keep hb) h)
 have WD:=hide (fun w' (hb:Below w.heap.size w w')=>(show Calls Tryz.prog 63 #[.int .i32 p] w' (fun e w''=>e=.returned (.int .i64 (m:Nat))/\Below w'.heap.size w' w'') from by
  have:=KF p w' hpb.1 hpb.2 (hT.spans.keep hb)
  rw [hm] at this
  exact this))
 have hps:SN.JK s r=if m=0\/s.g.AB<m then s else SN.EJ (SN.Jq s m) p m:=by
  unfold SN.JK
  rw [hp,hm]
  by_cases hc:m=0\/s.g.AB<m
  ·rw [if_pos hc,if_pos (by omega)]
  ·rw [if_neg hc,if_neg (by omega)]
   rfl
 rw [hps]
 clear hps
 by_cases hm0:m=0
 ·rw [if_pos (.inl hm0)]
  subst hm0
  clear hs hg hp hpb hm hwb hT
  go_enter Tryz.func28,Tryz.ntmps28
  go_upto_region 1 with (refine Bc HG _ rfl rfl rfl rfl rfl ?_;intro g gR w2 csR hsR HB2 HW2 HR2 HG2 hne hg1 Ai)
  clear HG
  go_wp2_with (refine AX HB2.out rfl _ rfl rfl ?_)
  refine(DR.out _ _ HW2.out ⟨_,rfl,HG2.out⟩).mono ?_
  rintro e w3 ⟨rfl,b3⟩
  obtain⟨HB3,HR3,HW3,HG3⟩:=Jo b3 HB2 HR2 HW2 HG2
  clear HB2 HR2 HW2 HG2 b3
  go_wp2_with fail
  refine(WD.out _ HW3.out).mono ?_
  rintro e w4 ⟨rfl,b4⟩
  obtain⟨HB4,HR4,HW4,HG4⟩:=Jo b4 HB3 HR3 HW3 HG3
  clear HB3 HR3 HW3 HG3 b4
  have k1:=HB4.out.c1
  go_wp2_with (first | (refine AX HB4.out rfl _ rfl rfl ?_) | (refine AQ HR4.out hsR rfl _ _ rfl rfl rfl rfl ?_;intro w8 hB8 hk8 hs8))
  exact BX rfl rfl rfl hB8 HG4 HR4 HW4 hk8 Ai
 have e1:((m:Int)==0)=false:=by simp;omega
 by_cases hcm:s.g.AB<m
 ·rw [if_pos (.inr hcm)]
  have e2:(s.g.AB:Int)<(m:Int):=by omega
  clear hs hg hp hpb hm hwb hT hcm
  go_enter Tryz.func28,Tryz.ntmps28
  go_upto_region 1 with (refine Bc HG _ rfl rfl rfl rfl rfl ?_;intro g gR w2 csR hsR HB2 HW2 HR2 HG2 hne hg1 Ai)
  clear HG
  go_wp2_with (refine AX HB2.out rfl _ rfl rfl ?_)
  refine(DR.out _ _ HW2.out ⟨_,rfl,HG2.out⟩).mono ?_
  rintro e w3 ⟨rfl,b3⟩
  obtain⟨HB3,HR3,HW3,HG3⟩:=Jo b3 HB2 HR2 HW2 HG2
  clear HB2 HR2 HW2 HG2 b3
  go_wp2_with fail
  refine(WD.out _ HW3.out).mono ?_
  rintro e w4 ⟨rfl,b4⟩
  obtain⟨HB4,HR4,HW4,HG4⟩:=Jo b4 HB3 HR3 HW3 HG3
  clear HB3 HR3 HW3 HG3 b4
  have k1:=HB4.out.c1
  go_wp2_with (first | (refine AX HB4.out rfl _ rfl rfl ?_) | (refine AQ HR4.out hsR rfl _ _ rfl rfl rfl rfl ?_;intro w8 hB8 hk8 hs8))
  exact BX rfl rfl rfl hB8 HG4 HR4 HW4 hk8 Ai
 rw [if_neg (by omega)]
 have e2: ¬(s.g.AB:Int)<(m:Int):=by omega
 obtain⟨T,hTT⟩: ∃T,SN.Jq s m=T:=⟨_,rfl⟩
 have hRT:SN.Ac T:=hTT▸SN.MH hs m
 have hCT:T.g.AB=s.g.AB:=hTT▸SN.V4 s m
 obtain⟨last,hlast⟩: ∃last,s.g.AB-m=last:=⟨_,rfl⟩
 obtain⟨b,hb0⟩: ∃b,(s.wrap&&(s.pend||decide (s.g.AB<s.col+m)))=b:=⟨_,rfl⟩
 have hbw:SN.Jq s m=if b=true then SN.Dx (s.u4 0) else s:=by
  unfold SN.Jq
  rw [<- hb0]
  by_cases hc:s.wrap=true/\(s.pend=true\/s.g.AB<s.col+m)
  ·rw [if_pos hc,if_pos (by simp only [Bool.and_eq_true,Bool.or_eq_true,decide_eq_true_eq];exact hc)]
  ·rw [if_neg hc,if_neg (by simp only [Bool.and_eq_true,Bool.or_eq_true,decide_eq_true_eq];exact hc)]
 rw [hTT] at hbw
 rw [hTT]
 have HBB:=hide hb0
 have HLE:=hide (show(s.g.AB:Int)-(m:Int)=(last:Nat) by omega)
 have HLM:=hide (show s.g.AB=last+m by omega)
 have HWF:=hide (fun (e:b=false)=>(show s=T by rw [hbw,e];rfl))
 have FD:=hide (fun (e:b=true) w' v' h=>(show Calls Tryz.prog 64 #[v'] w' (BD w' T) from(show SN.Dx (s.u4 0)=T by rw [hbw,e];rfl)▸Qr (s.u4 0) v' w' hs.g hs.row hs.g.2.2.1 (show s.top<=s.bot from SN.DZ hs) hs.bot (show PG.Cv (SN.BI s) from SN.Bz hs) h))
 obtain⟨c0,hc0⟩: ∃c0,SN.EF T m=c0:=⟨_,rfl⟩
 obtain⟨q,hq⟩: ∃q,q=decide (T.g.AB<=c0+m):=⟨_,rfl⟩
 obtain⟨c1,hc1⟩: ∃c1,c1=(if T.g.AB<=c0+m then T.g.AB-1 else c0+m):=⟨_,rfl⟩
 obtain⟨K,hK⟩: ∃K,T.g.AB=K:=⟨_,rfl⟩
 have hc0':min T.col (T.g.AB-m)=c0:=hc0
 have HTT:=hide (SN.iU T p m c0 c1 q hc0 hq hc1)
 have HTG:=hide (SN.qg T p m c0 hc0)
 have HTR:=hide (show T.row<40 by have:=hRT.row;have:=hRT.g.2.1;omega)
 have HTC:=hide (show c0<60/\T.col<60/\last<60 by have:=hRT.col;have:=hRT.g.2.2.2.1;omega)
 have HTK:=hide (show K<=60/\1<=K/\m<=2 by have:=hRT.g.2.2.2.1;have:=hRT.g.2.2.1;omega)
 have HC0:=hide (show(if last<T.col then (last:Int) else (T.col:Int))=(c0:Nat) by split<;>omega)
 have HEQ:=hide (show((c0:Int)==(last:Int))=q by
  rw [hq,Bool.eq_iff_iff]
  simp only [beq_iff_eq,decide_eq_true_eq]
  omega)
 have HC1:=hide (show(if (K:Int)-1<(c0:Int)+(m:Int) then (K:Int)-1 else (c0:Int)+(m:Int))=(c1:Nat) by
  rw [hc1]
  split<;>split<;>omega)
 have hPG:PG.R5 T.g (T.row:Nat) (c0:Nat) p T.pen=PG.EL T.g T.row c0 p T.pen:=by
  unfold PG.R5
  rw [if_pos (by omega)]
  rfl
 have PT:=fun w' v' (hb:Below w.heap.size w w') (h:IsG w' T.g v')=>pJ (w:=w') hRT.g h (T.row:Nat) (c0:Nat) p T.pen (by have:=hRT.row;have:=hRT.g.2.1;omega) (by have:=hRT.col;have:=hRT.g.2.2.2.1;omega) hpb.1 hpb.2 (hT.spans.keep hb)
 rw [hPG] at PT
 have HGK:=hide (show(PG.EL T.g T.row c0 p T.pen).AB=K from(SN.Cm _ _ _ _ _).2.trans hK)
 generalize PG.EL T.g T.row c0 p T.pen=G at PT HTT HTG HGK
 generalize SN.EJ T p m=U at HTT HTG⊢
 have PT:=hide PT
 clear hs hg hp hpb hm hwb hT hTT hRT hCT hlast hb0 hbw hc0 hc0' hq hc1 hK hPG
 go_enter Tryz.func28,Tryz.ntmps28
 go_upto_region 1 with (refine Bc HG _ rfl rfl rfl rfl rfl ?_;intro g gR w2 csR hsR HB2 HW2 HR2 HG2 hne hg1 Ai)
 clear HG
 go_wp2_with (refine AX HB2.out rfl _ rfl rfl ?_)
 refine(DR.out _ _ HW2.out ⟨_,rfl,HG2.out⟩).mono ?_
 rintro e w3 ⟨rfl,b3⟩
 obtain⟨HB3,HR3,HW3,HG3⟩:=Jo b3 HB2 HR2 HW2 HG2
 clear HB2 HR2 HW2 HG2 b3
 go_wp2_with fail
 refine(WD.out _ HW3.out).mono ?_
 rintro e w4 ⟨rfl,b4⟩
 obtain⟨HB4,HR4,HW4,HG4⟩:=Jo b4 HB3 HR3 HW3 HG3
 clear HB3 HR3 HW3 HG3 b4
 have k1:=HB4.out.c1
 go_upto_region 5 with fail
 go_cut [6] from 22 to 27 (fun u wx=>u=.int .i64 (last:Nat)/\wx=w4)
 case first=>
  go_wp2_with fail
  go_meet
  exact⟨by rw [HLE.out],rfl⟩
 case rest=>
  obtain⟨rfl,rfl⟩:=hcut
  rename World=>w4
  have k4:=HB4.out.c4
  have k5:=HB4.out.c5
  have k15:=HB4.out.c15
  go_upto_region 6 with fail
  go_cut [38] from 27 to 39 (fun u wx=>u=.bool b/\wx=w4)
  case first=>
   have hb:=HBB.out
   obtain⟨q1,h1⟩: ∃q,s.wrap=q:=⟨_,rfl⟩
   obtain⟨q2,h2⟩: ∃q,s.pend=q:=⟨_,rfl⟩
   rw [h1] at k15 hb
   rw [h2] at k5 hb
   clear HBB h1 h2
   cases q1 with
   | false=>
    obtain rfl:false=b:=by rw [<- hb];rfl
    go_wp2_with fail
    go_meet
    exact⟨rfl,rfl⟩
   | true=>
    cases q2 with
    | true=>
     obtain rfl:true=b:=by rw [<- hb];rfl
     go_wp2_with fail
     go_meet
     exact⟨rfl,rfl⟩
    | false=>
     by_cases h3:(last:Int)<(s.col:Int)
     ·obtain rfl:true=b:=by
       rw [<- hb,decide_eq_true (by have:=HLM.out;omega:s.g.AB<s.col+m)];rfl
      clear hb
      go_wp2_with fail
      go_meet
      exact⟨rfl,rfl⟩
     ·obtain rfl:false=b:=by
       rw [<- hb,decide_eq_false (by have:=HLM.out;omega: ¬s.g.AB<s.col+m)];rfl
      clear hb
      go_wp2_with fail
      go_meet
      exact⟨rfl,rfl⟩
  case rest=>
   obtain⟨rfl,hw⟩:=hcut
   subst hw
   rename World=>w4
   clear k4 k5 k15 k1
   go_upto_if 38 with fail
   go_cut [] from 38 to 42 (fun wx=> ∃A5 c5,Ak wx g (.slice A5 (T.g.rows*T.g.AB) c5) T/\Box wx gR 43 csR/\Below w.heap.size w wx/\IsG wx T.g (gv T.g.rows T.g.AB (.slice A5 (T.g.rows*T.g.AB) c5)))
   case first=>
    cases b with
    | false=>
     obtain rfl:s=T:=HWF.out rfl
     go_wp2_with fail
     go_meet
     exact⟨A,cp,HB4.out,HR4.out,HW4.out,HG4.out⟩
    | true=>
     have HFD:=hide (fun w' v' h=>FD.out rfl w' v' h)
     have k4:=HB4.out.c4
     have z4:=HB4.out.fz 4
     go_upto_region 8 with fail
     have HB5:=hide (show Ak (w4.setCell ⟨g,4,none⟩ (.int .i64 0)) g _ (s.u4 0) from HB4.out.Yp 0)
     obtain⟨HR5,HW5,HG5⟩:=EJ 4 (.int .i64 0) HB4 HR4 HW4 HG4 hne hg1
     generalize (w4.setCell ⟨g,4,none⟩ (.int .i64 0))=w5 at HB5 HR5 HW5 HG5⊢
     clear k4 z4 HB4 HR4 HW4 HG4
     go_wp2_with (refine AX HB5.out rfl _ rfl rfl ?_)
     refine(HFD.out _ _ ⟨_,rfl,HG5.out⟩).mono ?_
     rintro e w6 ⟨v6,rfl,⟨x6,rfl,hg6⟩,hb6⟩
     obtain⟨A6,c6,rfl⟩:=Ad hg6
     have HB6:=hide (HB5.out.below hb6 HB5.out.lt)
     have HR6:=hide (HR5.out.below hb6 HR5.out.lt)
     have HW6:=hide (HW5.out.trans (hb6.mono HW5.out.size))
     have HG6:=hide hg6
     clear hb6 hg6 HB5 HR5 HW5 HG5
     go_wp2_with (refine AQ HB6.out rfl rfl _ _ rfl rfl rfl rfl ?_;intro w7 hB7 hk7 hs7)
     go_meet
     exact⟨A6,c6,hB7,HR6.out.kept hk7 (by simp;exact hne),HW6.out.trans (hk7.toBelow HW6.out.size (fun k hh=>by simp at hh;omega)),HG6.out.kept HB6.out (by decide) hk7⟩
   case rest=>
    obtain⟨A5,c5,hB5,hR5,hW5,hG5⟩:=hcut
    rename World=>w5
    have HB5:=hide hB5
    have HR5:=hide hR5
    have HW5:=hide hW5
    have HG5:=hide hG5
    clear hB5 hR5 hW5 hG5 HB4 HR4 HW4 HG4 FD HWF DR WD
    have hTr:=HTR.out
    have hTc:=HTC.out
    have hTK:=HTK.out
    have k4:w5.cell? ⟨g,4,none⟩=some (.int .i64 (T.col:Nat)):=HB5.out.c4
    have z4:=HB5.out.fz 4
    go_upto_region 10 with fail
    simp only [HC0.out]
    have HB6:=hide (HB5.out.Yp c0)
    obtain⟨HR6,HW6,HG6⟩:=EJ 4 (.int .i64 (c0:Nat)) HB5 HR5 HW5 HG5 hne hg1
    generalize (w5.setCell ⟨g,4,none⟩ (.int .i64 (c0:Nat)))=w6 at HB6 HR6 HW6 HG6⊢
    clear k4 z4 HB5 HR5 HW5 HG5
    have k0:w6.cell? ⟨g,0,none⟩=some (.int .i64 (T.g.rows:Nat)):=HB6.out.c0
    have k1:w6.cell? ⟨g,1,none⟩=some (.int .i64 (T.g.AB:Nat)):=HB6.out.c1
    have k2:w6.cell? ⟨g,2,none⟩=some (.slice A5 (T.g.rows*T.g.AB) c5):=HB6.out.c2
    have k3:w6.cell? ⟨g,3,none⟩=some (.int .i64 (T.row:Nat)):=HB6.out.c3
    have k4:w6.cell? ⟨g,4,none⟩=some (.int .i64 (c0:Nat)):=HB6.out.c4
    have k8:w6.cell? ⟨g,8,none⟩=some (.int .i64 T.pen.1):=HB6.out.c8
    have k9:w6.cell? ⟨g,9,none⟩=some (.int .i64 T.pen.2.1):=HB6.out.c9
    have k10:w6.cell? ⟨g,10,none⟩=some (.int .i64 T.pen.2.2):=HB6.out.c10
    go_wp2_with fail
    refine(PT.out _ _ HW6.out HG6.out).mono ?_
    rintro e w7 ⟨v7,rfl,hi7,hb7⟩
    obtain⟨y7,rfl,hy7⟩:=hi7
    obtain⟨A7,c7,rfl⟩:=Ad (G:=G) ⟨_,rfl,hy7⟩
    have HT7:=hide (show IsG w7 G (gv G.rows G.AB (.slice A7 (G.rows*G.AB) c7)) from⟨_,rfl,hy7⟩)
    have HB7:=hide (HB6.out.below hb7 HB6.out.lt)
    have HR7:=hide (HR6.out.below hb7 HR6.out.lt)
    have HW7:=hide (HW6.out.trans (hb7.mono HW6.out.size))
    clear k0 k1 k2 k3 k4 k8 k9 k10 hy7 hb7 HB6 HR6 HW6 HG6 PT
    go_upto_region 11 with (refine Cc (y:=.slice A7 (G.rows*G.AB) c7) (G:=G) HB7.out rfl _ _ rfl rfl rfl rfl ?_;intro w8 hB8 hk8 hs8)
    have HB8:=hide hB8
    have HR8:=hide (HR7.out.kept hk8 (by simp;exact hne))
    have HW8:=hide (HW7.out.trans (hk8.toBelow HW7.out.size (fun k hh=>by simp at hh;omega)))
    have HG8:=hide (HT7.out.kept HB7.out (by decide) hk8)
    clear hB8 hk8 hs8 HB7 HR7 HW7 HT7
    have k1:w8.cell? ⟨g,1,none⟩=some (.int .i64 (K:Nat)):=HB8.out.c1.trans (by rw [<- HGK.out];rfl)
    have k4:w8.cell? ⟨g,4,none⟩=some (.int .i64 (c0:Nat)):=HB8.out.c4
    have z5:=HB8.out.fz 5
    have k5:=HB8.out.c5
    have k15:w8.cell? ⟨g,15,none⟩=some (.bool T.wrap):=HB8.out.c15
    obtain⟨wr,hwr⟩: ∃q,T.wrap=q:=⟨_,rfl⟩
    rw [hwr] at k15
    have HWR:=hide hwr
    clear hwr
    cases wr with
    | true=>
     go_upto_region 12 with fail
     simp only [HEQ.out]
     have HB9:=hide (HB8.out.KE q)
     obtain⟨HR9,HW9,HG9⟩:=EJ 5 (.bool q) HB8 HR8 HW8 HG8 hne hg1
     generalize (w8.setCell ⟨g,5,none⟩ (.bool q))=w9 at HB9 HR9 HW9 HG9⊢
     clear k1 k4 k5 k15 z5 HB8 HR8 HW8 HG8
     have k1:w9.cell? ⟨g,1,none⟩=some (.int .i64 (K:Nat)):=HB9.out.c1.trans (by rw [<- HGK.out];rfl)
     have k4:w9.cell? ⟨g,4,none⟩=some (.int .i64 (c0:Nat)):=HB9.out.c4
     have z4:=HB9.out.fz 4
     go_upto_region 13 with fail
     simp only [HC1.out]
     have Zt:=hide (HB9.out.Yp c1)
     obtain⟨Tn,Tp,Zu⟩:=EJ 4 (.int .i64 (c1:Nat)) HB9 HR9 HW9 HG9 hne hg1
     generalize (w9.setCell ⟨g,4,none⟩ (.int .i64 (c1:Nat)))=w10 at Zt Tn Tp Zu⊢
     clear k1 k4 z4 HB9 HR9 HW9 HG9
     go_wp2_with (first | (refine AX Zt.out rfl _ rfl rfl ?_) | (refine AQ Tn.out hsR rfl _ _ rfl rfl rfl rfl ?_;intro w12 mo hk12 hs12))
     exact bodyPost_ret (Cb rfl rfl mo) rfl ⟨_,rfl,⟨_,by rw [HTT.out _ HWR.out];rfl,by rw [HTG.out];exact Zu.out.kept Tn.out (by decide) hk12⟩,Tp.out.trans (hk12.toBelow Tp.out.size (fun k hh=>by simp at hh;omega))⟩
    | false=>
     go_upto_region 12 with fail
     have HB9:=hide (HB8.out.KE false)
     obtain⟨HR9,HW9,HG9⟩:=EJ 5 (.bool false) HB8 HR8 HW8 HG8 hne hg1
     generalize (w8.setCell ⟨g,5,none⟩ (.bool false))=w9 at HB9 HR9 HW9 HG9⊢
     clear k1 k4 k5 k15 z5 HB8 HR8 HW8 HG8
     have k1:w9.cell? ⟨g,1,none⟩=some (.int .i64 (K:Nat)):=HB9.out.c1.trans (by rw [<- HGK.out];rfl)
     have k4:w9.cell? ⟨g,4,none⟩=some (.int .i64 (c0:Nat)):=HB9.out.c4
     have z4:=HB9.out.fz 4
     go_upto_region 13 with fail
     simp only [HC1.out]
     have Zt:=hide (HB9.out.Yp c1)
     obtain⟨Tn,Tp,Zu⟩:=EJ 4 (.int .i64 (c1:Nat)) HB9 HR9 HW9 HG9 hne hg1
     generalize (w9.setCell ⟨g,4,none⟩ (.int .i64 (c1:Nat)))=w10 at Zt Tn Tp Zu⊢
     clear k1 k4 z4 HB9 HR9 HW9 HG9
     go_wp2_with (first | (refine AX Zt.out rfl _ rfl rfl ?_) | (refine AQ Tn.out hsR rfl _ _ rfl rfl rfl rfl ?_;intro w12 mo hk12 hs12))
     exact bodyPost_ret (Cb rfl rfl mo) rfl ⟨_,rfl,⟨_,by rw [HTT.out _ HWR.out];rfl,by rw [HTG.out];exact Zu.out.kept Tn.out (by decide) hk12⟩,Tp.out.trans (hk12.toBelow Tp.out.size (fun k hh=>by simp at hh;omega))⟩
end Go.Proofs.YtoaabebgmdbjeaaGreatDoor
namespace Go.Proofs.YtoaabebgmdbjeaaGreatDoor
open Go Go.RowKit
def XC:Array Value:= #[.int .i64 1,.int .i64 6,.int .i64 7,.int .i64 25]
def Qs (w:World):Prop:= ∃t,w.heap[3]? =some (.cells XC t (0,0))
theorem Qs.lt {w:World} (h:Qs w):3<w.heap.size:=by
 obtain⟨t,h⟩:=h
 exact(Array.getElem?_eq_some_iff.1 h).1
theorem Qs.below {w w':World} {B:Nat} (h:Qs w) (hb:Below B w w') (hB:3<B):Qs w':=by
 obtain⟨t,h⟩:=h
 exact⟨t,(hb.block _ hB).trans h⟩
theorem Qs.keep {w w':World} (h:Qs w) (hb:Below w.heap.size w w'):Qs w':=h.below hb h.lt
def Mg (n:Int) (k:Nat):Prop:= ∀j:Nat,j<k->(([1,6,7,25] :List Int).getD j 0)≠n
theorem Mg.next {n:Int} {k:Nat} (h:Mg n k) (hk:(([1,6,7,25] :List Int).getD k 0)≠n):Mg n (k+1):=fun j hj=>by
 by_cases e:j=k
 ·subst e
  exact hk
 ·exact h j (by omega)
theorem Mg.none {n:Int} (h:Mg n 4): ¬SN.JJ n:=fun hm=>by
 rcases hm with rfl | rfl | rfl | rfl
 ·exact h 0 (by omega) rfl
 ·exact h 1 (by omega) rfl
 ·exact h 2 (by omega) rfl
 ·exact h 3 (by omega) rfl
theorem mq (s:SN.Sc) (v:Value) (on:Bool) (w:World) (hs:SN.Ac s) (h:IsS w s v):Calls Tryz.prog 173 #[v,.int .i64 1,.bool on] w (BD w (SN.GV s 1 on)):=by
 have RT:=SN.Fj hs 1 on
 obtain⟨x,rfl,hg⟩:=h
 obtain⟨A,cp,rfl⟩:=Ad hg
 have hgr:=hs.g.2.1
 have hgc:=hs.g.2.2.2.1
 have hR1:=hs.g.1
 have hK1:=hs.g.2.2.1
 have HG:=hide hg
 have AT:=hide (fun w' v' h=>(show Calls Tryz.prog 14 #[v'] w' (BD w' (s.u18 on)) from Es _ v' RT w' h))
 clear RT hg hs
 go_enter Tryz.func173,Tryz.ntmps173
 go_upto_region 1 with (refine Bc HG _ rfl rfl rfl rfl rfl ?_;intro g gR w2 csR hsR HB2 HW2 HR2 HG2 hne hg1 Ai)
 clear HG
 have k18:=HB2.out.c18
 have z18:=HB2.out.fz 18
 go_upto_region 12 with fail
 have HB3:=hide (HB2.out.pR on)
 obtain⟨HR3,HW3,HG3⟩:=EJ 18 (.bool on) HB2 HR2 HW2 HG2 hne hg1
 generalize (w2.setCell ⟨g,18,none⟩ (.bool on))=w3 at HB3 HR3 HW3 HG3⊢
 clear k18 z18 HB2 HR2 HW2 HG2
 go_wp2_with (refine AX HB3.out rfl _ rfl rfl ?_)
 refine(AT.out _ _ ⟨_,rfl,HG3.out⟩).mono (Al HR3 HW3 fun A7 c7 w7 HR7 HW7 HG7=>?_)
 clear HB3 HR3 HW3 HG3
 go_wp2_with (refine AQ HR7.out hsR rfl _ _ rfl rfl rfl rfl ?_;intro w8 hB8 hk8 hs8)
 exact BX rfl rfl rfl hB8 HG7 HR7 HW7 hk8 Ai
theorem iV (s:SN.Sc) (v:Value) (on:Bool) (w:World) (hs:SN.Ac s) (h:IsS w s v):Calls Tryz.prog 173 #[v,.int .i64 25,.bool on] w (BD w (SN.GV s 25 on)):=by
 have RT:=SN.Fj hs 25 on
 obtain⟨x,rfl,hg⟩:=h
 obtain⟨A,cp,rfl⟩:=Ad hg
 have hgr:=hs.g.2.1
 have hgc:=hs.g.2.2.2.1
 have hR1:=hs.g.1
 have hK1:=hs.g.2.2.1
 have HG:=hide hg
 have AT:=hide (fun w' v' h=>(show Calls Tryz.prog 14 #[v'] w' (BD w' (s.u17 on)) from Es _ v' RT w' h))
 clear RT hg hs
 go_enter Tryz.func173,Tryz.ntmps173
 go_upto_region 1 with (refine Bc HG _ rfl rfl rfl rfl rfl ?_;intro g gR w2 csR hsR HB2 HW2 HR2 HG2 hne hg1 Ai)
 clear HG
 have k17:=HB2.out.c17
 have z17:=HB2.out.fz 17
 go_upto_region 12 with fail
 have HB3:=hide (HB2.out.pQ on)
 obtain⟨HR3,HW3,HG3⟩:=EJ 17 (.bool on) HB2 HR2 HW2 HG2 hne hg1
 generalize (w2.setCell ⟨g,17,none⟩ (.bool on))=w3 at HB3 HR3 HW3 HG3⊢
 clear k17 z17 HB2 HR2 HW2 HG2
 go_wp2_with (refine AX HB3.out rfl _ rfl rfl ?_)
 refine(AT.out _ _ ⟨_,rfl,HG3.out⟩).mono (Al HR3 HW3 fun A7 c7 w7 HR7 HW7 HG7=>?_)
 clear HB3 HR3 HW3 HG3
 go_wp2_with (refine AQ HR7.out hsR rfl _ _ rfl rfl rfl rfl ?_;intro w8 hB8 hk8 hs8)
 exact BX rfl rfl rfl hB8 HG7 HR7 HW7 hk8 Ai
theorem nA (s:SN.Sc) (v:Value) (on:Bool) (w:World) (hs:SN.Ac s) (h:IsS w s v):Calls Tryz.prog 173 #[v,.int .i64 6,.bool on] w (BD w (SN.GV s 6 on)):=by
 have RT:=SN.Fj hs 6 on
 obtain⟨x,rfl,hg⟩:=h
 obtain⟨A,cp,rfl⟩:=Ad hg
 have hgr:=hs.g.2.1
 have hgc:=hs.g.2.2.2.1
 have hR1:=hs.g.1
 have hK1:=hs.g.2.2.1
 have HG:=hide hg
 have AT:=hide (fun w' v' h=>(show Calls Tryz.prog 201 #[v'] w' (BD w' (SN.GV s 6 on)) from Qo (s.u16 on) v' w' (SN.Nh hs on) h))
 clear RT hg hs
 go_enter Tryz.func173,Tryz.ntmps173
 go_upto_region 1 with (refine Bc HG _ rfl rfl rfl rfl rfl ?_;intro g gR w2 csR hsR HB2 HW2 HR2 HG2 hne hg1 Ai)
 clear HG
 have k16:=HB2.out.c16
 have z16:=HB2.out.fz 16
 go_upto_region 6 with fail
 have HB3:=hide (HB2.out.kE on)
 obtain⟨HR3,HW3,HG3⟩:=EJ 16 (.bool on) HB2 HR2 HW2 HG2 hne hg1
 generalize (w2.setCell ⟨g,16,none⟩ (.bool on))=w3 at HB3 HR3 HW3 HG3⊢
 clear k16 z16 HB2 HR2 HW2 HG2
 go_wp2_with (refine AX HB3.out rfl _ rfl rfl ?_)
 refine(AT.out _ _ ⟨_,rfl,HG3.out⟩).mono (Al HR3 HW3 fun A7 c7 w7 HR7 HW7 HG7=>?_)
 clear HB3 HR3 HW3 HG3
 go_wp2_with (refine AQ HR7.out hsR rfl _ _ rfl rfl rfl rfl ?_;intro w8 hB8 hk8 hs8)
 exact BX rfl rfl rfl hB8 HG7 HR7 HW7 hk8 Ai
theorem nC (s:SN.Sc) (v:Value) (on:Bool) (w:World) (hs:SN.Ac s) (h:IsS w s v):Calls Tryz.prog 173 #[v,.int .i64 7,.bool on] w (BD w (SN.GV s 7 on)):=by
 have RT:=SN.Fj hs 7 on
 obtain⟨x,rfl,hg⟩:=h
 obtain⟨A,cp,rfl⟩:=Ad hg
 have hgr:=hs.g.2.1
 have hgc:=hs.g.2.2.2.1
 have hR1:=hs.g.1
 have hK1:=hs.g.2.2.1
 have HG:=hide hg
 cases hb:s.pend with
 | true=>
  have AT:=hide (fun w' v' h=>(show Calls Tryz.prog 14 #[v'] w' (BD w' ((s.u15 on).u5 on)) from Es _ v' (by have:=RT;rw [SN.Om,hb] at this;exact this) w' h))
  rw [SN.Om,hb]
  rw [show(true&&on)=on from Bool.true_and on]
  clear RT hg hs
  go_enter Tryz.func173,Tryz.ntmps173
  go_upto_region 1 with (refine Bc HG _ rfl rfl rfl rfl rfl ?_;intro g gR w2 csR hsR HB2 HW2 HR2 HG2 hne hg1 Ai)
  clear HG
  have k15:=HB2.out.c15
  have z15:=HB2.out.fz 15
  go_upto_region 9 with fail
  have HB3:=hide (HB2.out.kD on)
  obtain⟨HR3,HW3,HG3⟩:=EJ 15 (.bool on) HB2 HR2 HW2 HG2 hne hg1
  generalize (w2.setCell ⟨g,15,none⟩ (.bool on))=w3 at HB3 HR3 HW3 HG3⊢
  clear k15 z15 HB2 HR2 HW2 HG2
  have k5:w3.cell? ⟨g,5,none⟩=some (.bool true):=HB3.out.c5.trans (by rw [show(s.u15 on).pend=true from hb])
  have z5:=HB3.out.fz 5
  go_upto_region 12 with fail
  have HB4:=hide (HB3.out.KE on)
  obtain⟨HR4,HW4,HG4⟩:=EJ 5 (.bool on) HB3 HR3 HW3 HG3 hne hg1
  generalize (w3.setCell ⟨g,5,none⟩ (.bool on))=w4 at HB4 HR4 HW4 HG4⊢
  clear k5 z5 HB3 HR3 HW3 HG3
  go_wp2_with (refine AX HB4.out rfl _ rfl rfl ?_)
  refine(AT.out _ _ ⟨_,rfl,HG4.out⟩).mono (Al HR4 HW4 fun A7 c7 w7 HR7 HW7 HG7=>?_)
  clear HB4 HR4 HW4 HG4
  go_wp2_with (refine AQ HR7.out hsR rfl _ _ rfl rfl rfl rfl ?_;intro w8 hB8 hk8 hs8)
  exact BX rfl rfl rfl hB8 HG7 HR7 HW7 hk8 Ai
 | false=>
  have AT:=hide (fun w' v' h=>(show Calls Tryz.prog 14 #[v'] w' (BD w' ((s.u15 on).u5 false)) from Es _ v' (by have:=RT;rw [SN.Om,hb] at this;exact this) w' h))
  rw [SN.Om,hb]
  rw [show(false&&on)=false from Bool.false_and on]
  clear RT hg hs
  go_enter Tryz.func173,Tryz.ntmps173
  go_upto_region 1 with (refine Bc HG _ rfl rfl rfl rfl rfl ?_;intro g gR w2 csR hsR HB2 HW2 HR2 HG2 hne hg1 Ai)
  clear HG
  have k15:=HB2.out.c15
  have z15:=HB2.out.fz 15
  go_upto_region 9 with fail
  have HB3:=hide (HB2.out.kD on)
  obtain⟨HR3,HW3,HG3⟩:=EJ 15 (.bool on) HB2 HR2 HW2 HG2 hne hg1
  generalize (w2.setCell ⟨g,15,none⟩ (.bool on))=w3 at HB3 HR3 HW3 HG3⊢
  clear k15 z15 HB2 HR2 HW2 HG2
  have k5:w3.cell? ⟨g,5,none⟩=some (.bool false):=HB3.out.c5.trans (by rw [show(s.u15 on).pend=false from hb])
  have z5:=HB3.out.fz 5
  go_upto_region 12 with fail
  have HB4:=hide (HB3.out.KE false)
  obtain⟨HR4,HW4,HG4⟩:=EJ 5 (.bool false) HB3 HR3 HW3 HG3 hne hg1
  generalize (w3.setCell ⟨g,5,none⟩ (.bool false))=w4 at HB4 HR4 HW4 HG4⊢
  clear k5 z5 HB3 HR3 HW3 HG3
  go_wp2_with (refine AX HB4.out rfl _ rfl rfl ?_)
  refine(AT.out _ _ ⟨_,rfl,HG4.out⟩).mono (Al HR4 HW4 fun A7 c7 w7 HR7 HW7 HG7=>?_)
  clear HB4 HR4 HW4 HG4
  go_wp2_with (refine AQ HR7.out hsR rfl _ _ rfl rfl rfl rfl ?_;intro w8 hB8 hk8 hs8)
  exact BX rfl rfl rfl hB8 HG7 HR7 HW7 hk8 Ai
theorem iW (s:SN.Sc) (v:Value) (n:Int) (on:Bool) (w:World) (hn: ¬SN.JJ n) (hs:SN.Ac s) (h:IsS w s v):Calls Tryz.prog 173 #[v,.int .i64 n,.bool on] w (BD w (SN.GV s n on)):=by
 rw [SN.gM s on hn]
 unfold SN.JJ at hn
 have e1:(n==1)=false:=by simp;omega
 have e2:(n==6)=false:=by simp;omega
 have e3:(n==7)=false:=by simp;omega
 have e4:(n==25)=false:=by simp;omega
 obtain⟨x,rfl,hg⟩:=h
 obtain⟨A,cp,rfl⟩:=Ad hg
 have hgr:=hs.g.2.1
 have hgc:=hs.g.2.2.2.1
 have hR1:=hs.g.1
 have hK1:=hs.g.2.2.1
 have HG:=hide hg
 have AT:=hide (fun w' v' h=>Es s v' hs w' h)
 clear hg hs hn
 go_enter Tryz.func173,Tryz.ntmps173
 go_upto_region 1 with (refine Bc HG _ rfl rfl rfl rfl rfl ?_;intro g gR w2 csR hsR HB2 HW2 HR2 HG2 hne hg1 Ai)
 clear HG
 go_wp2_with (refine AX HB2.out rfl _ rfl rfl ?_)
 refine(AT.out _ _ ⟨_,rfl,HG2.out⟩).mono (Al HR2 HW2 fun A7 c7 w7 HR7 HW7 HG7=>?_)
 clear HB2 HR2 HW2 HG2
 go_wp2_with (refine AQ HR7.out hsR rfl _ _ rfl rfl rfl rfl ?_;intro w8 hB8 hk8 hs8)
 exact BX rfl rfl rfl hB8 HG7 HR7 HW7 hk8 Ai
theorem iX (s:SN.Sc) (v:Value) (n:Int) (on:Bool) (w:World) (hs:SN.Ac s) (h:IsS w s v):Calls Tryz.prog 173 #[v,.int .i64 n,.bool on] w (BD w (SN.GV s n on)):=by
 by_cases hn:SN.JJ n
 ·rcases hn with rfl | rfl | rfl | rfl
  ·exact mq s v on w hs h
  ·exact nA s v on w hs h
  ·exact nC s v on w hs h
  ·exact iV s v on w hs h
 ·exact iW s v n on w hn hs h
end Go.Proofs.YtoaabebgmdbjeaaGreatDoor
namespace Go.Proofs.YtoaabebgmdbjeaaGreatDoor
open Go.RowKit
end Go.Proofs.YtoaabebgmdbjeaaGreatDoor
namespace Go.Proofs.YtoaabebgmdbjeaaGreatDoor
open Go Go.RowKit
theorem SN.Tq (s:SN.Sc) (on:Bool) {l:List Int} {j:Nat} {x:Int} (h:l[j]? =some x):SN.Ct s on (l.take (j+1))=SN.GV (SN.Ct s on (l.take j)) x on:=by
 unfold SN.Ct
 rw [List.take_add_one,h]
 simp
end Go.Proofs.YtoaabebgmdbjeaaGreatDoor
namespace Go.Proofs.YtoaabebgmdbjeaaGreatDoor
open Go.RowKit
def Mh (p:PS.Pn):Value:=.agg #[.int .i64 p.fo,.int .i64 p.ba,.int .i64 (p.fl:Nat)]
def qh (p:PS.Pn):Array Value:= #[.int .i64 p.fo,.int .i64 p.ba,.int .i64 (p.fl:Nat)]
theorem Mi {x y:Nat} (hx:x<256) (hy:y<256):bits .andNot .i64 (x:Int) (y:Int)=((x&&& (255-y):Nat):Int):=by
 have h: ∀a b:BitVec 64,a.toNat<256->b.toNat<256->(a&&& ~~~b).toNat=a.toNat&&& (255-b.toNat):=by
  intro a b ha hb
  rw [BitVec.toNat_and,BitVec.toNat_not]
  apply Nat.eq_of_testBit_eq
  intro i
  rw [Nat.testBit_and,Nat.testBit_and]
  by_cases hi:i<8
  ·have e1:2 ^ 64-1-b.toNat=2 ^ 64-(b.toNat+1):=by omega
   have e2:255-b.toNat=2 ^ 8-(b.toNat+1):=by omega
   rw [e1,e2,Nat.testBit_two_pow_sub_succ (by omega),Nat.testBit_two_pow_sub_succ (by omega),decide_eq_true hi,decide_eq_true (by omega:i<64)]
  ·have:a.toNat.testBit i=false:=Nat.testBit_lt_two_pow (Nat.lt_of_lt_of_le ha (by
    have:2 ^ 8<=2 ^ i:=Nat.pow_le_pow_right (by omega) (by omega)
    omega))
   rw [this,Bool.false_and,Bool.false_and]
 show IntKind.i64.wrap ((BitVec.ofInt 64 (x:Int)&&& ~~~(BitVec.ofInt 64 (y:Int))).toNat:Int)=_
 have ex:(BitVec.ofInt 64 (x:Int)).toNat=x:=by rw [BitVec.ofInt_natCast,BitVec.toNat_ofNat];exact Nat.mod_eq_of_lt (by omega)
 have ey:(BitVec.ofInt 64 (y:Int)).toNat=y:=by rw [BitVec.ofInt_natCast,BitVec.toNat_ofNat];exact Nat.mod_eq_of_lt (by omega)
 rw [h _ _ (by omega) (by omega),ex,ey,IntKind.wrap_i64]
 have:x&&& (255-y)<256:=PS.Yv hx
 omega
theorem O5 {x y:Nat} (hx:x<256) (hy:y<256):bits .or .i64 (x:Int) (y:Int)=((x||| y:Nat):Int):=RH x y (by omega) (by omega)
end Go.Proofs.YtoaabebgmdbjeaaGreatDoor
namespace Go.Proofs.YtoaabebgmdbjeaaGreatDoor
open Go.RowKit
def FJ (l:List Int):List Value:=l.map (Value.int .i64)
end Go.Proofs.YtoaabebgmdbjeaaGreatDoor
namespace Go.Proofs.YtoaabebgmdbjeaaGreatDoor
open Go.RowKit
theorem Jw {l:List Int} {i:Nat} {x:Int} (h:l[i]? =some x):MK l i=((PS.pos x:Nat):Int):=by
 unfold MK
 rw [List.getD_eq_getElem?_getD,h]
 rfl
def Hw (z:Int) (A:Option Addr) (n cp B:Nat) (l:List Int) (w:World) (e:Ending) (w':World):Prop:=
 (∃m,w'=w.drewN m)/\ ∃A' n' c',e=.returned (.tuple #[.int .i64 z,.slice A' n' c'])/\Seen w B A' n' (FJ (l.drop (PS.wide l).2))/\n'<=c'/\n'<=n
theorem told_none {z:Int} {A:Option Addr} {n cp B m:Nat} {l:List Int} {w:World} (hl:(PS.wide l).2=l.length):Hw z A n cp B l w (.returned (.tuple #[.int .i64 z,.slice none 0 0])) (w.drewN m):=
 ⟨⟨m,rfl⟩,none,0,0,rfl,by rw [hl,List.drop_length];exact Seen.Xu _ _ _,Nat.le_refl _,Nat.zero_le _⟩
theorem Mj {z:Int} {A:Option Addr} {n cp B:Nat} {l:List Int} {w:World} (hl:(PS.wide l).2=l.length):Hw z A n cp B l w (.returned (.tuple #[.int .i64 z,.slice none 0 0])) w:=told_none (m:=0) hl
theorem O6 (ad:Addr) {k:Nat} (hk:k≠0):ad.add k=⟨ad.block,ad.off+k,none⟩:=by
 unfold Addr.add
 rw [if_neg hk]
theorem F5 {z:Int} {ad:Addr} {n cp B m k:Nat} {l:List Int} {w:World} (hl:(PS.wide l).2=k) (h0:k≠0) (hk:k<=n) (hnc:n<=cp) (hA:Seen w B (some ad) n (FJ l)) (hc:cp=k):
  Hw z (some ad) n cp B l w (.returned (.tuple #[.int .i64 z,.slice (some ad) (n-k) 0])) (w.drewN m):=by
 have h:=hA.drop hk hnc
 rw [if_pos hc] at h
 refine⟨⟨m,rfl⟩,_,_,_,rfl,?_,by omega,by omega⟩
 rw [hl]
 unfold FJ at h⊢
 rw [List.map_drop]
 exact h
theorem F6 {z:Int} {ad:Addr} {n cp B m k:Nat} {l:List Int} {w:World} (hl:(PS.wide l).2=k) (h0:k≠0) (hk:k<=n) (hnc:n<=cp) (hA:Seen w B (some ad) n (FJ l)) (hc: ¬cp=k):
  Hw z (some ad) n cp B l w (.returned (.tuple #[.int .i64 z,.slice (some ⟨ad.block,ad.off+k,none⟩) (n-k) (cp-k)])) (w.drewN m):=by
 rw [<- O6 ad h0]
 have h:=hA.drop hk hnc
 rw [if_neg hc] at h
 refine⟨⟨m,rfl⟩,_,_,_,rfl,?_,by omega,by omega⟩
 rw [hl]
 unfold FJ at h⊢
 rw [List.map_drop]
 exact h
theorem Tt (c:Int) (A:Option Addr) (n cp B:Nat) (l:List Int) (w:World) (hA:Seen w B A n (FJ l)) (hn:n<2) (hl:l.length=n):
  Calls Tryz.prog 217 #[.int .i64 c,.slice A n cp] w (Hw c A n cp B l w):=by
 have E:=hide (show(PS.wide l).2=l.length by rw [ML (by omega)])
 clear hA hl
 go_enter Tryz.func217,Tryz.ntmps217
 go_wp2_with fail
 refine bodyPost_ret (v:=.tuple #[.int .i64 c,.slice none 0 0]) (by simp [results,Tryz.results217,go_sem]) rfl (Mj E.out)
theorem XD (c:Int) (ad:Addr) (n cp B b:Nat) (l:List Int) (x:Int) (w:World) (z:Int) (hA:Seen w B (some ad) n (FJ l)) (hn:2<=n) (hn1:n<=1048576) (hnc:n<=cp) (h2:(PS.wide l).2=2)
  (c0:w.cell? ad=some (.int .i64 5)) (c1:w.cell? ⟨ad.block,ad.off+1,none⟩=some (.int .i64 x)) (hx0: -1<=x) (hx:PS.pos x=b) (hx1:x<=9223372036854775807) (hz:z=if b<=255 then (b:Int) else c):
  Calls Tryz.prog 217 #[.int .i64 c,.slice (some ad) n cp] w (Hw z (some ad) n cp B l w):=by
 have M:=hide fun w'=>Da x b hx hx0 w'
 have hb:b<=9223372036854775807:=by unfold PS.pos at hx;omega
 have D1:=hide fun m z h=>F5 (z:=z) (m:=m) h2 (by decide) hn hnc hA h
 have D2:=hide fun m z h=>F6 (z:=z) (m:=m) h2 (by decide) hn hnc hA h
 clear hA h2 hx
 by_cases h:b<=255
 ·rw [if_pos h] at hz
  subst hz
  have P:=hide fun w'=>Dj b true (decide_eq_true h) hb w'
  go_enter Tryz.func217,Tryz.ntmps217
  go_wp2_with fail
  refine(M.out _).mono ?_
  rintro e w' ⟨rfl,rfl⟩
  go_wp2_with fail
  refine(P.out _).mono ?_
  rintro e w' ⟨rfl,rfl⟩
  go_wp2_with fail
  go_quiet (fail)
  go_wp2_with fail
  all_goals first
   | exact bodyPost_ret (v:=.tuple #[.int .i64 b,.slice (some ad) (n-2) 0]) (by simp [results,Tryz.results217,go_sem] <;>omega) rfl (D1.out _ _ (by assumption))
   | exact bodyPost_ret (v:=.tuple #[.int .i64 b,.slice (some ⟨ad.block,ad.off+2,none⟩) (n-2) (cp-2)]) (by simp [results,Tryz.results217,go_sem]) rfl (D2.out _ _ (by assumption))
 ·rw [if_neg h] at hz
  subst hz
  have P:=hide fun w'=>Dj b false (decide_eq_false h) hb w'
  go_enter Tryz.func217,Tryz.ntmps217
  go_wp2_with fail
  refine(M.out _).mono ?_
  rintro e w' ⟨rfl,rfl⟩
  go_wp2_with fail
  refine(P.out _).mono ?_
  rintro e w' ⟨rfl,rfl⟩
  go_wp2_with fail
  go_quiet (fail)
  go_wp2_with fail
  all_goals first
   | exact bodyPost_ret (v:=.tuple #[.int .i64 z,.slice (some ad) (n-2) 0]) (by simp [results,Tryz.results217,go_sem] <;>omega) rfl (D1.out _ _ (by assumption))
   | exact bodyPost_ret (v:=.tuple #[.int .i64 z,.slice (some ⟨ad.block,ad.off+2,none⟩) (n-2) (cp-2)]) (by simp [results,Tryz.results217,go_sem]) rfl (D2.out _ _ (by assumption))
theorem told_other (c:Int) (ad:Addr) (n cp B:Nat) (l:List Int) (x:Int) (w:World) (hn:2<=n) (h2:(PS.wide l).2=l.length) (c0:w.cell? ad=some (.int .i64 x)) (h5:(x==5)=false) (ho:n<=3\/(4<=n/\(x==2)=false)):
  Calls Tryz.prog 217 #[.int .i64 c,.slice (some ad) n cp] w (Hw c (some ad) n cp B l w):=by
 have E:=hide h2
 clear h2
 rcases ho with ho | ⟨ho,h6⟩
 all_goals
  go_enter Tryz.func217,Tryz.ntmps217
  go_wp2_with fail
  exact bodyPost_ret (v:=.tuple #[.int .i64 c,.slice none 0 0]) (by simp [results,Tryz.results217,go_sem]) rfl (Mj E.out)
theorem XE (c:Int) (ad:Addr) (n cp B r g b:Nat) (l:List Int) (x y z:Int) (w:World) (hA:Seen w B (some ad) n (FJ l)) (hn:4<=n) (hn1:n<=1048576) (hnc:n<=cp) (h4:(PS.wide l).2=4)
  (c0:w.cell? ad=some (.int .i64 2)) (c1:w.cell? ⟨ad.block,ad.off+1,none⟩=some (.int .i64 x)) (c2:w.cell? ⟨ad.block,ad.off+2,none⟩=some (.int .i64 y)) (c3:w.cell? ⟨ad.block,ad.off+3,none⟩=some (.int .i64 z))
  (hx0: -1<=x) (hx:PS.pos x=r) (hx1:x<=9223372036854775807) (hy0: -1<=y) (hy:PS.pos y=g) (hy1:y<=9223372036854775807) (hz0: -1<=z) (hz:PS.pos z=b) (hz1:z<=9223372036854775807) (h: ¬r<=255):
  Calls Tryz.prog 217 #[.int .i64 c,.slice (some ad) n cp] w (Hw c (some ad) n cp B l w):=by
 have MX:=fun w'=>Da x r hx hx0 w'
 have MY:=fun w'=>Da y g hy hy0 w'
 have MZ:=fun w'=>Da z b hz hz0 w'
 have M:Hid (∀w' u,(u=x\/u=y\/u=z)->Calls Tryz.prog 216 #[.int .i64 u] w' fun e w2=>e=.returned (.int .i64 (PS.pos u:Nat))/\w2=w'):=hide fun w' u hu=>by
  rcases hu with rfl | rfl | rfl
  ·rw [hx];exact(MX _).mono fun _ _ h=>⟨h.1,h.2.symm⟩
  ·rw [hy];exact(MY _).mono fun _ _ h=>⟨h.1,h.2.symm⟩
  ·rw [hz];exact(MZ _).mono fun _ _ h=>⟨h.1,h.2.symm⟩
 have hr:r<=9223372036854775807:=by unfold PS.pos at hx;omega
 have hg:g<=9223372036854775807:=by unfold PS.pos at hy;omega
 have hb:b<=9223372036854775807:=by unfold PS.pos at hz;omega
 have D1:=hide fun m z h=>F5 (z:=z) (m:=m) h4 (by decide) hn hnc hA h
 have D2:=hide fun m z h=>F6 (z:=z) (m:=m) h4 (by decide) hn hnc hA h
 have P0:=hide fun w'=>Dj r false (decide_eq_false h) hr w'
 subst hx hy hz
 clear hA h4 MX MY MZ
 go_enter Tryz.func217,Tryz.ntmps217
 go_wp2_with fail
 go_quiet (first | (go_at_call 216;exact Calls.quiet_of_same (M.out _ _ (by simp))))
 go_wp2_with fail
 refine(P0.out _).mono ?_
 rintro e w' ⟨rfl,rfl⟩
 go_wp2_with fail
 go_quiet (fail)
 go_wp2_with fail
 all_goals first
  | exact bodyPost_ret (v:=.tuple #[.int .i64 c,.slice (some ad) (n-4) 0]) (by simp [results,Tryz.results217,go_sem] <;>omega) rfl (D1.out _ _ (by assumption))
  | exact bodyPost_ret (v:=.tuple #[.int .i64 c,.slice (some ⟨ad.block,ad.off+4,none⟩) (n-4) (cp-4)]) (by simp [results,Tryz.results217,go_sem]) rfl (D2.out _ _ (by assumption))
theorem XF (c:Int) (ad:Addr) (n cp B r g b:Nat) (l:List Int) (x y z:Int) (w:World) (hA:Seen w B (some ad) n (FJ l)) (hn:4<=n) (hn1:n<=1048576) (hnc:n<=cp) (h4:(PS.wide l).2=4)
  (c0:w.cell? ad=some (.int .i64 2)) (c1:w.cell? ⟨ad.block,ad.off+1,none⟩=some (.int .i64 x)) (c2:w.cell? ⟨ad.block,ad.off+2,none⟩=some (.int .i64 y)) (c3:w.cell? ⟨ad.block,ad.off+3,none⟩=some (.int .i64 z))
  (hx0: -1<=x) (hx:PS.pos x=r) (hx1:x<=9223372036854775807) (hy0: -1<=y) (hy:PS.pos y=g) (hy1:y<=9223372036854775807) (hz0: -1<=z) (hz:PS.pos z=b) (hz1:z<=9223372036854775807) (h:r<=255) (h1: ¬g<=255):
  Calls Tryz.prog 217 #[.int .i64 c,.slice (some ad) n cp] w (Hw c (some ad) n cp B l w):=by
 have MX:=fun w'=>Da x r hx hx0 w'
 have MY:=fun w'=>Da y g hy hy0 w'
 have MZ:=fun w'=>Da z b hz hz0 w'
 have M:Hid (∀w' u,(u=x\/u=y\/u=z)->Calls Tryz.prog 216 #[.int .i64 u] w' fun e w2=>e=.returned (.int .i64 (PS.pos u:Nat))/\w2=w'):=hide fun w' u hu=>by
  rcases hu with rfl | rfl | rfl
  ·rw [hx];exact(MX _).mono fun _ _ h=>⟨h.1,h.2.symm⟩
  ·rw [hy];exact(MY _).mono fun _ _ h=>⟨h.1,h.2.symm⟩
  ·rw [hz];exact(MZ _).mono fun _ _ h=>⟨h.1,h.2.symm⟩
 have hr:r<=9223372036854775807:=by unfold PS.pos at hx;omega
 have hg:g<=9223372036854775807:=by unfold PS.pos at hy;omega
 have hb:b<=9223372036854775807:=by unfold PS.pos at hz;omega
 have D1:=hide fun m z h=>F5 (z:=z) (m:=m) h4 (by decide) hn hnc hA h
 have D2:=hide fun m z h=>F6 (z:=z) (m:=m) h4 (by decide) hn hnc hA h
 have P0:=hide fun w'=>Dj r true (decide_eq_true h) hr w'
 have P1:=hide fun w'=>Dj g false (decide_eq_false h1) hg w'
 subst hx hy hz
 clear hA h4 MX MY MZ
 go_enter Tryz.func217,Tryz.ntmps217
 go_wp2_with fail
 go_quiet (first | (go_at_call 216;exact Calls.quiet_of_same (M.out _ _ (by simp))))
 go_wp2_with fail
 refine(P0.out _).mono ?_
 rintro e w' ⟨rfl,rfl⟩
 go_wp2_with fail
 refine(P1.out _).mono ?_
 rintro e w' ⟨rfl,rfl⟩
 go_wp2_with fail
 go_quiet (fail)
 go_wp2_with fail
 all_goals first
  | exact bodyPost_ret (v:=.tuple #[.int .i64 c,.slice (some ad) (n-4) 0]) (by simp [results,Tryz.results217,go_sem] <;>omega) rfl (D1.out _ _ (by assumption))
  | exact bodyPost_ret (v:=.tuple #[.int .i64 c,.slice (some ⟨ad.block,ad.off+4,none⟩) (n-4) (cp-4)]) (by simp [results,Tryz.results217,go_sem]) rfl (D2.out _ _ (by assumption))
theorem XG (c:Int) (ad:Addr) (n cp B r g b:Nat) (l:List Int) (x y z:Int) (w:World) (hA:Seen w B (some ad) n (FJ l)) (hn:4<=n) (hn1:n<=1048576) (hnc:n<=cp) (h4:(PS.wide l).2=4)
  (c0:w.cell? ad=some (.int .i64 2)) (c1:w.cell? ⟨ad.block,ad.off+1,none⟩=some (.int .i64 x)) (c2:w.cell? ⟨ad.block,ad.off+2,none⟩=some (.int .i64 y)) (c3:w.cell? ⟨ad.block,ad.off+3,none⟩=some (.int .i64 z))
  (hx0: -1<=x) (hx:PS.pos x=r) (hx1:x<=9223372036854775807) (hy0: -1<=y) (hy:PS.pos y=g) (hy1:y<=9223372036854775807) (hz0: -1<=z) (hz:PS.pos z=b) (hz1:z<=9223372036854775807) (h:r<=255) (h1:g<=255) (h2: ¬b<=255):
  Calls Tryz.prog 217 #[.int .i64 c,.slice (some ad) n cp] w (Hw c (some ad) n cp B l w):=by
 have MX:=fun w'=>Da x r hx hx0 w'
 have MY:=fun w'=>Da y g hy hy0 w'
 have MZ:=fun w'=>Da z b hz hz0 w'
 have M:Hid (∀w' u,(u=x\/u=y\/u=z)->Calls Tryz.prog 216 #[.int .i64 u] w' fun e w2=>e=.returned (.int .i64 (PS.pos u:Nat))/\w2=w'):=hide fun w' u hu=>by
  rcases hu with rfl | rfl | rfl
  ·rw [hx];exact(MX _).mono fun _ _ h=>⟨h.1,h.2.symm⟩
  ·rw [hy];exact(MY _).mono fun _ _ h=>⟨h.1,h.2.symm⟩
  ·rw [hz];exact(MZ _).mono fun _ _ h=>⟨h.1,h.2.symm⟩
 have hr:r<=9223372036854775807:=by unfold PS.pos at hx;omega
 have hg:g<=9223372036854775807:=by unfold PS.pos at hy;omega
 have hb:b<=9223372036854775807:=by unfold PS.pos at hz;omega
 have D1:=hide fun m z h=>F5 (z:=z) (m:=m) h4 (by decide) hn hnc hA h
 have D2:=hide fun m z h=>F6 (z:=z) (m:=m) h4 (by decide) hn hnc hA h
 have P0:=hide fun w'=>Dj r true (decide_eq_true h) hr w'
 have P1:=hide fun w'=>Dj g true (decide_eq_true h1) hg w'
 have P2:=hide fun w'=>Dj b false (decide_eq_false h2) hb w'
 subst hx hy hz
 clear hA h4 MX MY MZ
 go_enter Tryz.func217,Tryz.ntmps217
 go_wp2_with fail
 go_quiet (first | (go_at_call 216;exact Calls.quiet_of_same (M.out _ _ (by simp))))
 go_wp2_with fail
 refine(P0.out _).mono ?_
 rintro e w' ⟨rfl,rfl⟩
 go_wp2_with fail
 refine(P1.out _).mono ?_
 rintro e w' ⟨rfl,rfl⟩
 go_wp2_with fail
 refine(P2.out _).mono ?_
 rintro e w' ⟨rfl,rfl⟩
 go_wp2_with fail
 go_quiet (fail)
 go_wp2_with fail
 all_goals first
  | exact bodyPost_ret (v:=.tuple #[.int .i64 c,.slice (some ad) (n-4) 0]) (by simp [results,Tryz.results217,go_sem] <;>omega) rfl (D1.out _ _ (by assumption))
  | exact bodyPost_ret (v:=.tuple #[.int .i64 c,.slice (some ⟨ad.block,ad.off+4,none⟩) (n-4) (cp-4)]) (by simp [results,Tryz.results217,go_sem]) rfl (D2.out _ _ (by assumption))
theorem XH (c:Int) (ad:Addr) (n cp B r g b:Nat) (l:List Int) (x y z:Int) (w:World) (hA:Seen w B (some ad) n (FJ l)) (hn:4<=n) (hn1:n<=1048576) (hnc:n<=cp) (h4:(PS.wide l).2=4)
  (c0:w.cell? ad=some (.int .i64 2)) (c1:w.cell? ⟨ad.block,ad.off+1,none⟩=some (.int .i64 x)) (c2:w.cell? ⟨ad.block,ad.off+2,none⟩=some (.int .i64 y)) (c3:w.cell? ⟨ad.block,ad.off+3,none⟩=some (.int .i64 z))
  (hx0: -1<=x) (hx:PS.pos x=r) (hx1:x<=9223372036854775807) (hy0: -1<=y) (hy:PS.pos y=g) (hy1:y<=9223372036854775807) (hz0: -1<=z) (hz:PS.pos z=b) (hz1:z<=9223372036854775807) (h:r<=255) (h1:g<=255) (h2:b<=255):
  Calls Tryz.prog 217 #[.int .i64 c,.slice (some ad) n cp] w (Hw (16777216+(r:Int)*65536+(g:Int)*256+(b:Int)) (some ad) n cp B l w):=by
 have MX:=fun w'=>Da x r hx hx0 w'
 have MY:=fun w'=>Da y g hy hy0 w'
 have MZ:=fun w'=>Da z b hz hz0 w'
 have M:Hid (∀w' u,(u=x\/u=y\/u=z)->Calls Tryz.prog 216 #[.int .i64 u] w' fun e w2=>e=.returned (.int .i64 (PS.pos u:Nat))/\w2=w'):=hide fun w' u hu=>by
  rcases hu with rfl | rfl | rfl
  ·rw [hx];exact(MX _).mono fun _ _ h=>⟨h.1,h.2.symm⟩
  ·rw [hy];exact(MY _).mono fun _ _ h=>⟨h.1,h.2.symm⟩
  ·rw [hz];exact(MZ _).mono fun _ _ h=>⟨h.1,h.2.symm⟩
 have hr:r<=9223372036854775807:=by unfold PS.pos at hx;omega
 have hg:g<=9223372036854775807:=by unfold PS.pos at hy;omega
 have hb:b<=9223372036854775807:=by unfold PS.pos at hz;omega
 have D1:=hide fun m z h=>F5 (z:=z) (m:=m) h4 (by decide) hn hnc hA h
 have D2:=hide fun m z h=>F6 (z:=z) (m:=m) h4 (by decide) hn hnc hA h
 have P0:=hide fun w'=>Dj r true (decide_eq_true h) hr w'
 have P1:=hide fun w'=>Dj g true (decide_eq_true h1) hg w'
 have P2:=hide fun w'=>Dj b true (decide_eq_true h2) hb w'
 have j1:=Ez 24 16777216 ((r:Int)*65536) (by omega) (by decide) (by omega) (by show(r:Int)*65536<16777216;omega) (by omega)
 have j2:=Ez 16 (16777216+(r:Int)*65536) ((g:Int)*256) (by omega) (by show(16777216+(r:Int)*65536)%65536=0;omega) (by omega) (by show(g:Int)*256<65536;omega) (by omega)
 have j3:=Ez 8 (16777216+(r:Int)*65536+(g:Int)*256) (b:Int) (by omega) (by show(16777216+(r:Int)*65536+(g:Int)*256)%256=0;omega) (by omega) (by show(b:Int)<256;omega) (by omega)
 have J1:=hide j1
 have J2:=hide j2
 have J3:=hide j3
 clear j1 j2 j3
 subst hx hy hz
 clear hA h4 MX MY MZ
 go_enter Tryz.func217,Tryz.ntmps217
 go_wp2_with fail
 go_quiet (first | (go_at_call 216;exact Calls.quiet_of_same (M.out _ _ (by simp))))
 go_wp2_with fail
 refine(P0.out _).mono ?_
 rintro e w' ⟨rfl,rfl⟩
 go_wp2_with fail
 refine(P1.out _).mono ?_
 rintro e w' ⟨rfl,rfl⟩
 go_wp2_with fail
 refine(P2.out _).mono ?_
 rintro e w' ⟨rfl,rfl⟩
 go_wp2_with fail
 simp only [J1.out,J2.out,J3.out]
 go_quiet (fail)
 go_wp2_with fail
 all_goals first
  | exact bodyPost_ret (v:=.tuple #[.int .i64 _,.slice (some ad) (n-4) 0]) (by simp [results,Tryz.results217,go_sem] <;>omega) rfl (D1.out _ _ (by assumption))
  | exact bodyPost_ret (v:=.tuple #[.int .i64 _,.slice (some ⟨ad.block,ad.off+4,none⟩) (n-4) (cp-4)]) (by simp [results,Tryz.results217,go_sem]) rfl (D2.out _ _ (by assumption))
end Go.Proofs.YtoaabebgmdbjeaaGreatDoor
