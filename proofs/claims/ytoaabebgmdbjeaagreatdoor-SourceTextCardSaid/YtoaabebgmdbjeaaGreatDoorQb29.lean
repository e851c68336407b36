/- SourceText: plain text of so many letters fills rows from left to right, from above. (written by tools/gensourcetext.py) -/
import Derived.Test.YtoaabebgmdbjeaaGreatDoorQb24
import Derived.Test.YtoaabebgmdbjeaaGreatDoorQb28
set_option maxRecDepth 100000
set_option maxHeartbeats 16000000
set_option linter.unusedVariables false
namespace Go.Proofs.YtoaabebgmdbjeaaGreatDoor
open Go Go.RowKit
theorem Vb {a q t c k wd:Nat} (hw:c<wd) (ht:t<wd) (hk:k=q*wd+t+1):(a<q\/(a=q/\c<=t))<->a*wd+c<k:=by
 subst hk
 rcases Nat.lt_trichotomy a q with h | h | h
 ·have:=Nat.mul_le_mul_right wd (show a+1<=q from h)
  rw [Nat.add_mul,Nat.one_mul] at this
  exact⟨fun _=>by omega,fun _=>.inl h⟩
 ·subst h
  exact⟨fun h=>by omega,fun h=>.inr ⟨rfl,by omega⟩⟩
 ·have:=Nat.mul_le_mul_right wd (show q+1<=a from h)
  rw [Nat.add_mul,Nat.one_mul] at this
  exact⟨fun h=>by omega,fun h=>by omega⟩
theorem YL {h wd k:Nat} {s:SN.Sc} (h1:1<=h) (w1:1<=wd) (T:SN.PW h wd k s):
  (∀r c,r<h->c<wd->PG.rn (s.g.f r c)=if (((if k=0 then 0 else (k-1) / wd)-(h-1))+r)*wd+c<k then SN.letter ((((if k=0 then 0 else (k-1) / wd)-(h-1))+r)*wd+c) else 32)/\
   (s.row+((if k=0 then 0 else (k-1) / wd)-(h-1))=(if k=0 then 0 else (k-1) / wd))/\(s.pend=decide (0<k/\k%wd=0)):=by
 by_cases hk:k=0
 ·obtain⟨a1,a2,a3,a4⟩:=T.none_ hk
  subst hk
  rw [if_pos rfl]
  refine⟨fun r c hr hc=>?_,by omega,by rw [a3,decide_eq_false (by omega)]⟩
  rw [a4,if_neg (by omega)]
 ·rw [if_neg hk]
  have e:k=(k-1) / wd*wd+(k-1)%wd+1:=by
   have:=Nat.div_add_mod (k-1) wd
   rw [Nat.mul_comm] at this
   omega
  have lt:(k-1)%wd<wd:=Nat.mod_lt _ (by omega)
  obtain⟨s1,s2,s3,s4⟩:=T.some_ _ _ lt e
  refine⟨fun r c hr hc=>?_,by omega,?_⟩
  ·rw [s4 r c hr hc]
   by_cases d:((k-1) / wd-(h-1))+r<(k-1) / wd\/(((k-1) / wd-(h-1))+r=(k-1) / wd/\c<=(k-1)%wd)
   ·rw [if_pos d,if_pos ((Vb hc lt e).1 d)]
   ·rw [if_neg d,if_neg (fun d'=>d ((Vb hc lt e).2 d'))]
  ·have em:(k%wd=0)<->((k-1)%wd+1=wd):=by
    generalize hq:(k-1) / wd=q at e
    generalize ht:(k-1)%wd=t at e lt
    rw [e,Nat.add_assoc,Nat.mul_comm,Nat.mul_add_mod]
    by_cases h2:t+1=wd
    ·rw [h2,Nat.mod_self]
     simp
    ·rw [Nat.mod_eq_of_lt (by omega)]
     omega
   by_cases h2:(k-1)%wd+1=wd
   ·rw [(s2 h2).2,decide_eq_true ⟨by omega,em.2 h2⟩]
   ·rw [(s3 (by omega)).2,decide_eq_false (fun d=>h2 (em.1 d.2))]
theorem PY (j:Nat):97+(j:Int)%26=SN.letter j:=by
 unfold SN.letter
 omega
theorem QT (rw_ cl n_:Int) (wrp:Bool) (w:World) (hr: -9223372036854775808<=rw_/\rw_<=9223372036854775807) (hc: -9223372036854775808<=cl/\cl<=9223372036854775807) (hn: -9223372036854775808<=n_/\n_<=9223372036854775807) (hT:Gh w) (ht:Fp w):
  Calls Tryz.prog 6 #[.int .i64 rw_,.int .i64 cl,.int .i64 n_,.bool wrp] w fun e w'=>e=.returned (.bool true)/\Below w.heap.size w w':=by
 have HT:=hide hT
 have HTB:=hide ht
 have LO0:=hide (Below.refl w.heap.size w)
 obtain⟨R,hR⟩: ∃R:Nat,1+rw_%(4-1+1)=(R:Int):=⟨(1+rw_%(4-1+1)).toNat,by omega⟩
 obtain⟨K,hK⟩: ∃K:Nat,1+cl%(8-1+1)=(K:Int):=⟨(1+cl%(8-1+1)).toNat,by omega⟩
 obtain⟨k,hk⟩: ∃k:Nat,0+n_%(60-0+1)=(k:Int):=⟨(0+n_%(60-0+1)).toNat,by omega⟩
 have hR1:1<=R/\R<=4:=by omega
 have hK1:1<=K/\K<=8:=by omega
 have hk1:k<=60:=by omega
 have W1:=hide (fun w'=>BN rw_ 1 4 R hR w' hr.1 hr.2 (by omega) (by omega) (by omega))
 have W2:=hide (fun w'=>BN cl 1 8 K hK w' hc.1 hc.2 (by omega) (by omega) (by omega))
 have W3:=hide (fun w'=>BN n_ 0 60 k hk w' hn.1 hn.2 (by omega) (by omega) (by omega))
 obtain⟨F0,hF⟩: ∃F,SN.full R K=F:=⟨_,rfl⟩
 have NW:=hide (fun w'=>hF▸MO (R:Int) (K:Int) R K (by unfold SN.cut;omega) (by unfold SN.cut;omega) (by omega) (by omega) w')
 have RT: ∀j,SN.Ad (SN.Dt (F0.u15 wrp) j):=fun j=>by
  subst hF
  induction j with
  | zero=>exact(SN.Ee.start wrp hR1.1 (by omega) hK1.1 (by omega)).right
  | succ j ih=>exact SN.KZ ih _
 have TI:=hide (fun (e:wrp=true)=>(show SN.PW R K k (SN.Dt (F0.u15 wrp) k) by rw [e, <- hF];exact SN.SB hR1.1 (by omega) hK1.1 (by omega) k))
 have TN:=hide (fun (e:wrp=false)=>(show SN.SE R K k (SN.Dt (F0.u15 wrp) k) by rw [e, <- hF];exact SN.PX hR1.1 (by omega) hK1.1 (by omega) k))
 have PR:=hide (fun (j:Nat) w' v' (hw:Below w.heap.size w w') h=>(show Calls Tryz.prog 28 #[v',.int .i32 (97+(j:Int)%26)] w' (BF w' (SN.Dt (F0.u15 wrp) (j+1))) from by
  rw [PY j]
  exact PO (SN.Dt (F0.u15 wrp) j) v' (SN.letter j) w' (RT j) (by have:=SN.Jb j;omega) (by have:=SN.Jb j;omega) (hT.keep hw) h))
 have RTH:=hide RT
 clear hT ht hF hR hK hk hr hc hn RT
 go_enter Tryz.func6,Tryz.ntmps6
 go_wp2_with fail
 refine(W1.out _).mono ?_
 rintro e w' ⟨rfl,rfl⟩
 go_wp2_with fail
 refine(W2.out _).mono ?_
 rintro e w' ⟨rfl,rfl⟩
 go_wp2_with fail
 clear W1 W2
 refine(NW.out _).mono ?_
 rintro e wb1 ⟨v1,rfl,⟨x1,rfl,hg1⟩,hb1⟩
 have LO1:=hide (LO0.out.trans (hb1.mono LO0.out.size))
 clear LO0 hb1
 obtain⟨A1,c1,rfl⟩:=Af hg1
 have dF:=hide hg1
 clear hg1
 go_upto_region 3 with (first | (refine BX rfl rfl ?_;intro gs sF sG Lu bO LG bP) | (refine AU Lu bO rfl _ _ rfl rfl rfl rfl ?_;intro Nu R5 LH bQ))
 have bS:w.heap.size<=gs:=by have:=LO1.out.size;omega
 have dG:=hide (dF.out.low LG)
 have LO2:=hide (LO1.out.trans (LG.mono LO1.out.size))
 clear dF LO1 LG
 have YK:=hide (dG.out.kept Lu (by decide) LH)
 have LO3:=hide (LO2.out.trans (LH.toBelow LO2.out.size (fun k hh=>by simp at hh;omega)))
 clear dG LO2
 have Kk:=hide R5
 clear R5 LH Lu bP
 clear bQ
 go_simp
 have k15:=Kk.out.c15
 have z15:=Kk.out.fz 15
 go_upto_region 4 with fail
 have HS2:=hide (Kk.out.VD wrp)
 have HG2:=hide (IsG.puts YK.out Kk.out 15 (.bool wrp))
 have HL2:=hide (LO3.out.setCell (p:=⟨gs,15,none⟩) bS (.bool wrp))
 generalize (Nu.setCell ⟨gs,15,none⟩ (.bool wrp))=w4 at HS2 HG2 HL2⊢
 clear k15 z15 Kk YK LO3
 go_wp2_with fail
 refine(W3.out _).mono ?_
 rintro e w' ⟨rfl,rfl⟩
 go_wp2_with fail
 clear W3 NW
 go_loopw [36] (fun u wr=> ∃jq:Nat,jq<=k/\u=.int .i64 jq/\Hid (∃A c,Au wr gs (.slice A ((SN.Dt (F0.u15 wrp) jq).g.rows*(SN.Dt (F0.u15 wrp) jq).g.AB) c) (SN.Dt (F0.u15 wrp) jq)/\IsG wr (SN.Dt (F0.u15 wrp) jq).g (gv (SN.Dt (F0.u15 wrp) jq).g.rows (SN.Dt (F0.u15 wrp) jq).g.AB (.slice A ((SN.Dt (F0.u15 wrp) jq).g.rows*(SN.Dt (F0.u15 wrp) jq).g.AB) c)))/\Hid (Below w.heap.size w wr)) (fun i _=>k-(intOf i).toNat)
 case atStart=>exact⟨0,Nat.zero_le _,rfl,hide ⟨_,_,HS2.out,HG2.out⟩,HL2⟩
 case round=>
  obtain⟨jq,hj,rfl,HX,HL⟩:=hrel
  obtain⟨A4,c4,hB4,hG4⟩:=HX.out
  have HB4:=hide hB4
  have HG4:=hide hG4
  clear HX hB4 hG4 HS2 HG2 HL2
  by_cases hjk:jq<k
  ·as_aux_lemma=>
   have PJ:=hide (PR.out jq)
   obtain⟨T0,hT0⟩: ∃T,(SN.Dt (F0.u15 wrp) jq)=T:=⟨_,rfl⟩
   obtain⟨T1,hT1⟩: ∃T,(SN.Dt (F0.u15 wrp) (jq+1))=T:=⟨_,rfl⟩
   rw [hT0] at HB4 HG4 PJ
   rw [hT1] at PJ
   have ET1:=hide hT1
   clear hT0 hT1 PR
   have hw32:IntKind.i32.wrap (97+(jq:Int)%26)=97+(jq:Int)%26:=IntWalk.i32_in _ (by omega)
   go_wp2_with (refine AY HB4.out rfl _ rfl rfl ?_)
   refine(PJ.out _ _ HL.out ⟨_,rfl,HG4.out⟩).mono ?_
   rintro e w5 ⟨v5,rfl,⟨x5,rfl,hg5⟩,hb5⟩
   obtain⟨A5,c5,rfl⟩:=Af hg5
   have HB5:=hide (HB4.out.below hb5 HB4.out.lt)
   have HL5:=hide (HL.out.trans (hb5.mono HL.out.size))
   have HG5:=hide hg5
   clear hg5 hb5 HB4 HG4 HL PJ
   go_wp2_with (refine AU HB5.out rfl rfl _ _ rfl rfl rfl rfl ?_;intro w6 hB6 hk6 hs6)
   go_roundw
   case rel=>
    refine⟨jq+1,by omega,by go_num,hide ?_,hide (HL5.out.trans (hk6.toBelow HL5.out.size (fun k hh=>by simp at hh;omega)))⟩
    rw [ET1.out]
    exact⟨A5,c5,hB6,HG5.out.kept HB5.out (by decide) hk6⟩
   case measure=>simp [intOf];omega
  obtain rfl:jq=k:=by omega
  have hjj: ¬(jq:Int)<(jq:Int):=by omega
  have RJ:=RTH.out jq
  clear PR RTH hjk
  obtain⟨T,hTT⟩: ∃T,(SN.Dt (F0.u15 wrp) jq)=T:=⟨_,rfl⟩
  rw [hTT] at HB4 HG4 RJ TI TN
  have RH:=hide RJ
  clear RJ hTT
  cases wrp with
  | false=>
   as_aux_lemma=>
   have TN':=TN.out rfl
   have t1:=TN'.row
   have t2:=TN'.col
   have t5:=TN'.last
   have t3:=TN'.p.rows
   have t4:=TN'.p.AB
   clear TI TN TN'
   have HR3:=hide t3
   have HC4:=hide t4
   have HRW:=hide t1
   have HCL:=hide t2
   have HLS:=hide t5
   clear t1 t2 t3 t4 t5
   clear hj hjj
   by_cases hj0:jq=0
   ·subst hj0
    have AT:=hide (fun w' (h:IsG w' T.g (gv T.g.rows T.g.AB (.slice A4 (T.g.rows*T.g.AB) c4)))=>(show Calls Tryz.prog 29 #[.agg #[.int .i64 (T.g.rows:Nat),.int .i64 (T.g.AB:Nat),.slice A4 (T.g.rows*T.g.AB) c4],.int .i64 0,.int .i64 (-1)] w' (fun e w''=>e=.returned (.tuple #[.agg #[.int .i32 (PG.rn PG.none),.int .i64 (PG.kd PG.none),.int .i64 (PG.pn PG.none).1,.int .i64 (PG.pn PG.none).2.1,.int .i64 (PG.pn PG.none).2.2],.bool false])/\Below w'.heap.size w' w'') from by
     have:=mD (w:=w') RH.out.g h 0 (-1)
     rw [show atI T.g 0 (-1)=atv PG.none false from if_neg (by omega)] at this
     exact this))
    have HCW:=hide (show((T.col:Nat):Int)=0 by rw [HCL.out];omega)
    clear HCL HLS
    have m1: ¬(K:Int)<0:=by omega
    have m2: ¬(K:Int)-1<0:=by omega
    have k0:wr.cell? ⟨gs,0,none⟩=some (.int .i64 (T.g.rows:Nat)):=HB4.out.c0
    have k1:wr.cell? ⟨gs,1,none⟩=some (.int .i64 (T.g.AB:Nat)):=HB4.out.c1
    have k2:wr.cell? ⟨gs,2,none⟩=some (.slice A4 (T.g.rows*T.g.AB) c4):=HB4.out.c2
    go_wp2_with fail
    refine(AT.out _ HG4.out).mono ?_
    rintro e w5 ⟨rfl,hb5⟩
    have HB5:=hide (HB4.out.below hb5 HB4.out.lt)
    have HL5:=hide (HL.out.trans (hb5.mono HL.out.size))
    clear k0 k1 k2 HB4 HG4 HL hb5 AT
    go_upto_region 12 with fail
    have HB6:=hide (HB5.out.below ((Below.refl w5.heap.size w5).alloc (Nat.le_refl _) (.cells #[.int .i32 (PG.rn PG.none),.int .i64 (PG.kd PG.none),.int .i64 (PG.pn PG.none).1,.int .i64 (PG.pn PG.none).2.1,.int .i64 (PG.pn PG.none).2.2] 66)) HB5.out.lt)
    have HX6:=hide (Box.new w5 66 #[.int .i32 (PG.rn PG.none),.int .i64 (PG.kd PG.none),.int .i64 (PG.pn PG.none).1,.int .i64 (PG.pn PG.none).2.1,.int .i64 (PG.pn PG.none).2.2])
    have HL6:=hide (HL5.out.trans (((Below.refl w5.heap.size w5).alloc (Nat.le_refl _) (.cells #[.int .i32 (PG.rn PG.none),.int .i64 (PG.kd PG.none),.int .i64 (PG.pn PG.none).1,.int .i64 (PG.pn PG.none).2.1,.int .i64 (PG.pn PG.none).2.2] 66)).mono HL5.out.size))
    generalize hgc:w5.heap.size=gc at HX6⊢
    generalize hw6:w5.alloc (.cells #[.int .i32 (PG.rn PG.none),.int .i64 (PG.kd PG.none),.int .i64 (PG.pn PG.none).1,.int .i64 (PG.pn PG.none).2.1,.int .i64 (PG.pn PG.none).2.2] 66)=w6 at HB6 HX6 HL6⊢
    clear HB5 HL5 hgc hw6
    have k3:w6.cell? ⟨gs,3,none⟩=some (.int .i64 0):=HB6.out.c3.trans (by rw [HRW.out];rfl)
    have k4:w6.cell? ⟨gs,4,none⟩=some (.int .i64 0):=HB6.out.c4.trans (by rw [HCW.out])
    have q0:w6.cell? ⟨gc,0,none⟩=some (.int .i32 (PG.rn PG.none)):=HX6.out.cell 0
    go_wp2_with fail
    refine(EO _ (HT.out.keep HL6.out) (HTB.out.keep HL6.out)).mono ?_
    rintro e wq ⟨rfl,hq⟩
    go_wp2_with fail
    go_ret
    exact⟨rfl,HL6.out.trans (hq.mono HL6.out.size)⟩
   have e1:((jq:Int)==0)=false:=by simp;omega
   by_cases hc1:jq<=K-1
   ·have m1: ¬(K:Int)<(jq:Int):=by omega
    have m2: ¬(K:Int)-1<(jq:Int):=by omega
    obtain⟨F,hFc⟩: ∃F,T.g.f 0 (jq-1)=F:=⟨_,rfl⟩
    have hrn:PG.rn F=97+((jq:Int)-1)%26:=by
     have:=HLS.out (by omega)
     rw [show min jq K=jq by omega,hFc] at this
     rw [this]
     unfold SN.letter
     omega
    have AT:=hide (fun w' (h:IsG w' T.g (gv T.g.rows T.g.AB (.slice A4 (T.g.rows*T.g.AB) c4)))=>(show Calls Tryz.prog 29 #[.agg #[.int .i64 (T.g.rows:Nat),.int .i64 (T.g.AB:Nat),.slice A4 (T.g.rows*T.g.AB) c4],.int .i64 0,.int .i64 ((jq:Int)-1)] w' (fun e w''=>e=.returned (.tuple #[.agg #[.int .i32 (97+((jq:Int)-1)%26),.int .i64 (PG.kd F),.int .i64 (PG.pn F).1,.int .i64 (PG.pn F).2.1,.int .i64 (PG.pn F).2.2],.bool true])/\Below w'.heap.size w' w'') from by
     have:=U9 (w:=w') RH.out.g h 0 (jq-1) (by rw [HR3.out];omega) (by rw [HC4.out];omega) hFc
     rw [hrn,show(((jq-1:Nat)):Int)=(jq:Int)-1 by omega] at this
     exact this))
    have HCW:=hide (show((T.col:Nat):Int)=(jq:Nat) by rw [HCL.out];omega)
    clear HCL HLS hFc hrn
    have hw32:IntKind.i32.wrap (97+((jq:Int)-1)%26)=97+((jq:Int)-1)%26:=IntWalk.i32_in _ (by omega)
    skip
    have k0:wr.cell? ⟨gs,0,none⟩=some (.int .i64 (T.g.rows:Nat)):=HB4.out.c0
    have k1:wr.cell? ⟨gs,1,none⟩=some (.int .i64 (T.g.AB:Nat)):=HB4.out.c1
    have k2:wr.cell? ⟨gs,2,none⟩=some (.slice A4 (T.g.rows*T.g.AB) c4):=HB4.out.c2
    go_wp2_with fail
    refine(AT.out _ HG4.out).mono ?_
    rintro e w5 ⟨rfl,hb5⟩
    have HB5:=hide (HB4.out.below hb5 HB4.out.lt)
    have HL5:=hide (HL.out.trans (hb5.mono HL.out.size))
    clear k0 k1 k2 HB4 HG4 HL hb5 AT
    go_upto_region 12 with fail
    have HB6:=hide (HB5.out.below ((Below.refl w5.heap.size w5).alloc (Nat.le_refl _) (.cells #[.int .i32 (97+((jq:Int)-1)%26),.int .i64 (PG.kd F),.int .i64 (PG.pn F).1,.int .i64 (PG.pn F).2.1,.int .i64 (PG.pn F).2.2] 66)) HB5.out.lt)
    have HX6:=hide (Box.new w5 66 #[.int .i32 (97+((jq:Int)-1)%26),.int .i64 (PG.kd F),.int .i64 (PG.pn F).1,.int .i64 (PG.pn F).2.1,.int .i64 (PG.pn F).2.2])
    have HL6:=hide (HL5.out.trans (((Below.refl w5.heap.size w5).alloc (Nat.le_refl _) (.cells #[.int .i32 (97+((jq:Int)-1)%26),.int .i64 (PG.kd F),.int .i64 (PG.pn F).1,.int .i64 (PG.pn F).2.1,.int .i64 (PG.pn F).2.2] 66)).mono HL5.out.size))
    generalize hgc:w5.heap.size=gc at HX6⊢
    generalize hw6:w5.alloc (.cells #[.int .i32 (97+((jq:Int)-1)%26),.int .i64 (PG.kd F),.int .i64 (PG.pn F).1,.int .i64 (PG.pn F).2.1,.int .i64 (PG.pn F).2.2] 66)=w6 at HB6 HX6 HL6⊢
    clear HB5 HL5 hgc hw6
    have k3:w6.cell? ⟨gs,3,none⟩=some (.int .i64 0):=HB6.out.c3.trans (by rw [HRW.out];rfl)
    have k4:w6.cell? ⟨gs,4,none⟩=some (.int .i64 (jq:Nat)):=HB6.out.c4.trans (by rw [HCW.out])
    have q0:w6.cell? ⟨gc,0,none⟩=some (.int .i32 (97+((jq:Int)-1)%26)):=HX6.out.cell 0
    go_wp2_with fail
    refine(EO _ (HT.out.keep HL6.out) (HTB.out.keep HL6.out)).mono ?_
    rintro e wq ⟨rfl,hq⟩
    go_wp2_with fail
    go_ret
    exact⟨rfl,HL6.out.trans (hq.mono HL6.out.size)⟩
   by_cases hc2:jq=K
   ·have m1: ¬(K:Int)<(jq:Int):=by omega
    have m2:(K:Int)-1<(jq:Int):=by omega
    have m3:jq<=K/\K<=jq:=by omega
    clear hc2
    obtain⟨F,hFc⟩: ∃F,T.g.f 0 (jq-1)=F:=⟨_,rfl⟩
    have hrn:PG.rn F=97+((jq:Int)-1)%26:=by
     have:=HLS.out (by omega)
     rw [show min jq K=jq by omega,hFc] at this
     rw [this]
     unfold SN.letter
     omega
    have AT:=hide (fun w' (h:IsG w' T.g (gv T.g.rows T.g.AB (.slice A4 (T.g.rows*T.g.AB) c4)))=>(show Calls Tryz.prog 29 #[.agg #[.int .i64 (T.g.rows:Nat),.int .i64 (T.g.AB:Nat),.slice A4 (T.g.rows*T.g.AB) c4],.int .i64 0,.int .i64 ((jq:Int)-1)] w' (fun e w''=>e=.returned (.tuple #[.agg #[.int .i32 (97+((jq:Int)-1)%26),.int .i64 (PG.kd F),.int .i64 (PG.pn F).1,.int .i64 (PG.pn F).2.1,.int .i64 (PG.pn F).2.2],.bool true])/\Below w'.heap.size w' w'') from by
     have:=U9 (w:=w') RH.out.g h 0 (jq-1) (by rw [HR3.out];omega) (by rw [HC4.out];omega) hFc
     rw [hrn,show(((jq-1:Nat)):Int)=(jq:Int)-1 by omega] at this
     exact this))
    have HCW:=hide (show((T.col:Nat):Int)=(K:Int)-1 by rw [HCL.out];omega)
    clear HCL HLS hFc hrn
    have hw32:IntKind.i32.wrap (97+((jq:Int)-1)%26)=97+((jq:Int)-1)%26:=IntWalk.i32_in _ (by omega)
    skip
    have k0:wr.cell? ⟨gs,0,none⟩=some (.int .i64 (T.g.rows:Nat)):=HB4.out.c0
    have k1:wr.cell? ⟨gs,1,none⟩=some (.int .i64 (T.g.AB:Nat)):=HB4.out.c1
    have k2:wr.cell? ⟨gs,2,none⟩=some (.slice A4 (T.g.rows*T.g.AB) c4):=HB4.out.c2
    go_wp2_with fail
    refine(AT.out _ HG4.out).mono ?_
    rintro e w5 ⟨rfl,hb5⟩
    have HB5:=hide (HB4.out.below hb5 HB4.out.lt)
    have HL5:=hide (HL.out.trans (hb5.mono HL.out.size))
    clear k0 k1 k2 HB4 HG4 HL hb5 AT
    go_upto_region 12 with fail
    have HB6:=hide (HB5.out.below ((Below.refl w5.heap.size w5).alloc (Nat.le_refl _) (.cells #[.int .i32 (97+((jq:Int)-1)%26),.int .i64 (PG.kd F),.int .i64 (PG.pn F).1,.int .i64 (PG.pn F).2.1,.int .i64 (PG.pn F).2.2] 66)) HB5.out.lt)
    have HX6:=hide (Box.new w5 66 #[.int .i32 (97+((jq:Int)-1)%26),.int .i64 (PG.kd F),.int .i64 (PG.pn F).1,.int .i64 (PG.pn F).2.1,.int .i64 (PG.pn F).2.2])
    have HL6:=hide (HL5.out.trans (((Below.refl w5.heap.size w5).alloc (Nat.le_refl _) (.cells #[.int .i32 (97+((jq:Int)-1)%26),.int .i64 (PG.kd F),.int .i64 (PG.pn F).1,.int .i64 (PG.pn F).2.1,.int .i64 (PG.pn F).2.2] 66)).mono HL5.out.size))
    generalize hgc:w5.heap.size=gc at HX6⊢
    generalize hw6:w5.alloc (.cells #[.int .i32 (97+((jq:Int)-1)%26),.int .i64 (PG.kd F),.int .i64 (PG.pn F).1,.int .i64 (PG.pn F).2.1,.int .i64 (PG.pn F).2.2] 66)=w6 at HB6 HX6 HL6⊢
    clear HB5 HL5 hgc hw6
    have k3:w6.cell? ⟨gs,3,none⟩=some (.int .i64 0):=HB6.out.c3.trans (by rw [HRW.out];rfl)
    have k4:w6.cell? ⟨gs,4,none⟩=some (.int .i64 ((K:Int)-1)):=HB6.out.c4.trans (by rw [HCW.out])
    have q0:w6.cell? ⟨gc,0,none⟩=some (.int .i32 (97+((jq:Int)-1)%26)):=HX6.out.cell 0
    go_wp2_with fail
    refine(EO _ (HT.out.keep HL6.out) (HTB.out.keep HL6.out)).mono ?_
    rintro e wq ⟨rfl,hq⟩
    go_wp2_with fail
    go_ret
    exact⟨rfl,HL6.out.trans (hq.mono HL6.out.size)⟩
   have m1:(K:Int)<(jq:Int):=by omega
   have m2:(K:Int)-1<(jq:Int):=by omega
   obtain⟨F,hFc⟩: ∃F,T.g.f 0 (K-1)=F:=⟨_,rfl⟩
   have hrn:PG.rn F=97+((jq:Int)-1)%26:=by
    have:=HLS.out (by omega)
    rw [show min jq K=K by omega,hFc] at this
    rw [this]
    unfold SN.letter
    omega
   have AT:=hide (fun w' (h:IsG w' T.g (gv T.g.rows T.g.AB (.slice A4 (T.g.rows*T.g.AB) c4)))=>(show Calls Tryz.prog 29 #[.agg #[.int .i64 (T.g.rows:Nat),.int .i64 (T.g.AB:Nat),.slice A4 (T.g.rows*T.g.AB) c4],.int .i64 0,.int .i64 ((K:Int)-1)] w' (fun e w''=>e=.returned (.tuple #[.agg #[.int .i32 (97+((jq:Int)-1)%26),.int .i64 (PG.kd F),.int .i64 (PG.pn F).1,.int .i64 (PG.pn F).2.1,.int .i64 (PG.pn F).2.2],.bool true])/\Below w'.heap.size w' w'') from by
    have:=U9 (w:=w') RH.out.g h 0 (K-1) (by rw [HR3.out];omega) (by rw [HC4.out];omega) hFc
    rw [hrn,show(((K-1:Nat)):Int)=(K:Int)-1 by omega] at this
    exact this))
   have HCW:=hide (show((T.col:Nat):Int)=(K:Int)-1 by rw [HCL.out];omega)
   clear HCL HLS hFc hrn
   have hw32:IntKind.i32.wrap (97+((jq:Int)-1)%26)=97+((jq:Int)-1)%26:=IntWalk.i32_in _ (by omega)
   skip
   have k0:wr.cell? ⟨gs,0,none⟩=some (.int .i64 (T.g.rows:Nat)):=HB4.out.c0
   have k1:wr.cell? ⟨gs,1,none⟩=some (.int .i64 (T.g.AB:Nat)):=HB4.out.c1
   have k2:wr.cell? ⟨gs,2,none⟩=some (.slice A4 (T.g.rows*T.g.AB) c4):=HB4.out.c2
   go_wp2_with fail
   refine(AT.out _ HG4.out).mono ?_
   rintro e w5 ⟨rfl,hb5⟩
   have HB5:=hide (HB4.out.below hb5 HB4.out.lt)
   have HL5:=hide (HL.out.trans (hb5.mono HL.out.size))
   clear k0 k1 k2 HB4 HG4 HL hb5 AT
   go_upto_region 12 with fail
   have HB6:=hide (HB5.out.below ((Below.refl w5.heap.size w5).alloc (Nat.le_refl _) (.cells #[.int .i32 (97+((jq:Int)-1)%26),.int .i64 (PG.kd F),.int .i64 (PG.pn F).1,.int .i64 (PG.pn F).2.1,.int .i64 (PG.pn F).2.2] 66)) HB5.out.lt)
   have HX6:=hide (Box.new w5 66 #[.int .i32 (97+((jq:Int)-1)%26),.int .i64 (PG.kd F),.int .i64 (PG.pn F).1,.int .i64 (PG.pn F).2.1,.int .i64 (PG.pn F).2.2])
   have HL6:=hide (HL5.out.trans (((Below.refl w5.heap.size w5).alloc (Nat.le_refl _) (.cells #[.int .i32 (97+((jq:Int)-1)%26),.int .i64 (PG.kd F),.int .i64 (PG.pn F).1,.int .i64 (PG.pn F).2.1,.int .i64 (PG.pn F).2.2] 66)).mono HL5.out.size))
   generalize hgc:w5.heap.size=gc at HX6⊢
   generalize hw6:w5.alloc (.cells #[.int .i32 (97+((jq:Int)-1)%26),.int .i64 (PG.kd F),.int .i64 (PG.pn F).1,.int .i64 (PG.pn F).2.1,.int .i64 (PG.pn F).2.2] 66)=w6 at HB6 HX6 HL6⊢
   clear HB5 HL5 hgc hw6
   have k3:w6.cell? ⟨gs,3,none⟩=some (.int .i64 0):=HB6.out.c3.trans (by rw [HRW.out];rfl)
   have k4:w6.cell? ⟨gs,4,none⟩=some (.int .i64 ((K:Int)-1)):=HB6.out.c4.trans (by rw [HCW.out])
   have q0:w6.cell? ⟨gc,0,none⟩=some (.int .i32 (97+((jq:Int)-1)%26)):=HX6.out.cell 0
   go_wp2_with fail
   refine(EO _ (HT.out.keep HL6.out) (HTB.out.keep HL6.out)).mono ?_
   rintro e wq ⟨rfl,hq⟩
   go_wp2_with fail
   go_ret
   exact⟨rfl,HL6.out.trans (hq.mono HL6.out.size)⟩
  | true=>
   as_aux_lemma=>
   obtain⟨u1,u2,u3⟩:=YL hR1.1 hK1.1 (TI.out rfl)
   have t3:=(TI.out rfl).p.rows
   have t4:=(TI.out rfl).p.AB
   clear TI TN
   obtain⟨q,hq⟩: ∃q,(if jq=0 then 0 else (jq-1) / K)=q:=⟨_,rfl⟩
   rw [hq] at u1 u2
   obtain⟨fs,hfs⟩: ∃fs,q-(R-1)=fs:=⟨_,rfl⟩
   rw [hfs] at u1 u2
   have hqb:q<=60:=by
    rw [<- hq]
    split
    ·omega
    ·exact Nat.le_trans (Nat.div_le_self _ _) (by omega)
   have hfb:fs<=60:=by omega
   have EQ0:=hide (fun (e:jq=0)=>(show q=0 by rw [<- hq,if_pos e]))
   have EQ1:=hide (fun (e: ¬jq=0)=>(show((jq:Int)-1) / (K:Int)=(q:Nat) by
    rw [<- hq,if_neg e,show(jq:Int)-1=((jq-1:Nat):Int) by omega]
    exact(Int.natCast_ediv _ _).symm))
   have EFS:=hide hfs
   have U1:=hide u1
   have U2:=hide u2
   have U3:=hide u3
   have HR3:=hide t3
   have HC4:=hide t4
   clear u1 u2 u3 t3 t4 hq hfs hj hjj
   go_upto_if 91 with fail
   go_cut [16] from 90 to 96 (fun u wx=>u=.int .i64 (q:Nat)/\wx=wr)
   case first=>
    by_cases hj0:jq=0
    ·have e0:=EQ0.out hj0
     have hp: ¬(0:Int)<(jq:Int):=by omega
     clear EQ1 EQ0 hj0
     subst e0
     go_wp2_with fail
     go_meet
     exact⟨rfl,rfl⟩
    ·have e1:=hide (EQ1.out hj0)
     have hp:(0:Int)<(jq:Int):=by omega
     have hK0:(0:Int)<(K:Int):=by omega
     clear EQ1 EQ0 hj0
     go_wp2_with fail
     go_meet
     exact⟨by rw [e1.out],rfl⟩
   case rest=>
    obtain⟨rfl,hw⟩:=hcut
    subst hw
    rename World=>wr
    go_upto_region 16 with fail
    go_cut [17] from 96 to 102 (fun u wx=>u=.int .i64 (fs:Nat)/\wx=wr)
    case first=>
     have e:=EFS.out
     by_cases hp:(q:Int)-R+1<0
     ·obtain rfl:0=fs:=by omega
      clear e
      go_wp2_with fail
      go_meet
      exact⟨rfl,rfl⟩
     ·have e2:=hide (show(q:Int)-R+1=(fs:Nat) by omega)
      clear e
      go_wp2_with fail
      go_meet
      exact⟨by rw [e2.out],rfl⟩
    case rest=>
     obtain⟨rfl,hw⟩:=hcut
     subst hw
     rename World=>wr
     go_wp2_with fail
     go_loopw [102] (fun i wy=> ∃y:Nat,y<=R/\i=.int .i64 (y:Nat)/\Hid (Below wr.heap.size wr wy)) (fun i _=>R-(intOf i).toNat)
     case atStart=>exact⟨0,Nat.zero_le _,rfl,hide (Below.refl _ _)⟩
     case round=>
      rename World=>wy
      obtain⟨y,hy,rfl,HY⟩:=hrel
      by_cases hyR:y<R
      ·as_aux_lemma=>
       go_wp2_with fail
       go_loopw [106] (fun i wx=> ∃x:Nat,x<=K/\i=.int .i64 (x:Nat)/\Hid (Below wy.heap.size wy wx)) (fun i _=>K-(intOf i).toNat)
       case atStart=>exact⟨0,Nat.zero_le _,rfl,hide (Below.refl _ _)⟩
       case round=>
        rename World=>wx
        obtain⟨x,hx,rfl,HX⟩:=hrel
        by_cases hxK:x<K
        ·as_aux_lemma=>
         have hlo:=HY.out.trans (HX.out.mono HY.out.size)
         have HB7:=hide (HB4.out.below hlo HB4.out.lt)
         have HG7:=hide (HG4.out.low hlo)
         obtain⟨z,hz⟩: ∃z,(fs+y)*K+x=z:=⟨_,rfl⟩
         obtain⟨F,hF⟩: ∃F,T.g.f y x=F:=⟨_,rfl⟩
         obtain⟨c,hc⟩: ∃c,PG.rn F=c:=⟨_,rfl⟩
         have hcell:=hide (show c=if z<jq then SN.letter z else 32 by rw [<- hc, <- hF, <- hz];exact U1.out y x hyR hxK)
         have AT:=hide (fun w' (h:IsG w' T.g (gv T.g.rows T.g.AB (.slice A4 (T.g.rows*T.g.AB) c4)))=>(show Calls Tryz.prog 29 #[.agg #[.int .i64 (T.g.rows:Nat),.int .i64 (T.g.AB:Nat),.slice A4 (T.g.rows*T.g.AB) c4],.int .i64 (y:Nat),.int .i64 (x:Nat)] w' (fun e w''=>e=.returned (.tuple #[.agg #[.int .i32 c,.int .i64 (PG.kd F),.int .i64 (PG.pn F).1,.int .i64 (PG.pn F).2.1,.int .i64 (PG.pn F).2.2],.bool true])/\Below w'.heap.size w' w'') from by
          have:=U9 (w:=w') RH.out.g h y x (by rw [HR3.out];exact hyR) (by rw [HC4.out];exact hxK) hF
          rw [hc] at this
          exact this))
         have hmn:((fs:Int)+(y:Int))*(K:Int)=(((fs+y)*K:Nat):Int):=by simp [Int.natCast_add,Int.natCast_mul]
         have hmb:(fs+y)*K<=64*8:=Nat.mul_le_mul (by omega) (by omega)
         have HM:=hide (show((fs:Int)+(y:Int))*(K:Int)+(x:Int)=(z:Nat) by rw [hmn, <- hz];omega)
         have hz1:z<=600:=by omega
         have hm0:0<=((fs:Int)+(y:Int))*(K:Int):=by rw [hmn];omega
         have hm1:((fs:Int)+(y:Int))*(K:Int)<=512:=by rw [hmn];omega
         clear hz hF hc hmn hmb hlo U1 HB4 HG4
         go_upto_region 23 with fail
         go_cut [20] from 109 to 116 (fun u wz=>u=.int .i64 (z:Nat)/\wz=wx)
         case first=>
          go_wp2_with fail
          go_meet
          exact⟨by rw [HM.out],rfl⟩
         case rest=>
          obtain⟨rfl,hw⟩:=hcut
          subst hw
          rename World=>wx
          clear HM hm0 hm1
          go_upto_if 118 with fail
          go_cut [21] from 116 to 123 (fun u wz=>u=.int .i32 c/\wz=wx)
          case first=>
           have e:=hcell.out
           by_cases hzj:z<jq
           ·rw [if_pos hzj, <- PY z] at e
            have e:=hide e
            have hzj2:(z:Int)<(jq:Int):=by omega
            have hw32:IntKind.i32.wrap (97+(z:Int)%26)=97+(z:Int)%26:=IntWalk.i32_in _ (by omega)
            clear hcell
            go_wp2_with fail
            go_meet
            exact⟨by rw [e.out],rfl⟩
           ·rw [if_neg hzj] at e
            subst e
            have hzj2: ¬(z:Int)<(jq:Int):=by omega
            clear hcell
            go_wp2_with fail
            go_meet
            exact⟨rfl,rfl⟩
          case rest=>
           obtain⟨rfl,hw⟩:=hcut
           subst hw
           rename World=>wx
           clear hcell
           have k0:wx.cell? ⟨gs,0,none⟩=some (.int .i64 (T.g.rows:Nat)):=HB7.out.c0
           have k1:wx.cell? ⟨gs,1,none⟩=some (.int .i64 (T.g.AB:Nat)):=HB7.out.c1
           have k2:wx.cell? ⟨gs,2,none⟩=some (.slice A4 (T.g.rows*T.g.AB) c4):=HB7.out.c2
           go_wp2_with fail
           refine(AT.out _ HG7.out).mono ?_
           rintro e w5 ⟨rfl,hb5⟩
           have HX5:=hide (HX.out.trans (hb5.mono HX.out.size))
           clear k0 k1 k2 HB7 HG7 hb5 AT HX
           go_upto_region 28 with fail
           have HX6:=hide (Box.new w5 66 #[.int .i32 c,.int .i64 (PG.kd F),.int .i64 (PG.pn F).1,.int .i64 (PG.pn F).2.1,.int .i64 (PG.pn F).2.2])
           have HL6:=hide (HX5.out.trans (((Below.refl w5.heap.size w5).alloc (Nat.le_refl _) (.cells #[.int .i32 c,.int .i64 (PG.kd F),.int .i64 (PG.pn F).1,.int .i64 (PG.pn F).2.1,.int .i64 (PG.pn F).2.2] 66)).mono HX5.out.size))
           generalize hgc:w5.heap.size=gc at HX6⊢
           generalize hw6:w5.alloc (.cells #[.int .i32 c,.int .i64 (PG.kd F),.int .i64 (PG.pn F).1,.int .i64 (PG.pn F).2.1,.int .i64 (PG.pn F).2.2] 66)=w6 at HX6 HL6⊢
           clear HX5 hgc hw6
           have q0:w6.cell? ⟨gc,0,none⟩=some (.int .i32 c):=HX6.out.cell 0
           go_wp2_with fail
           go_roundw
           case rel=>exact⟨x+1,by omega,by go_num,HL6⟩
           case measure=>simp [intOf];omega
        ·obtain hxe:x=K:=by omega
         have hx2: ¬(x:Int)<(K:Int):=by omega
         clear hxe hxK
         go_wp2_with fail
         go_roundw
         case rel=>exact⟨y+1,by omega,by go_num,hide (HY.out.trans (HX.out.mono HY.out.size))⟩
         case measure=>simp [intOf];omega
      ·have hy2: ¬(y:Int)<(R:Int):=by omega
       have HB8:=hide (HB4.out.below HY.out HB4.out.lt)
       have HL8:=hide (HL.out.trans (HY.out.mono HL.out.size))
       have SR:=hide (fun w' (hb:Below wy.heap.size wy w')=>EO w' (HT.out.keep (HL8.out.trans (hb.mono HL8.out.size))) (HTB.out.keep (HL8.out.trans (hb.mono HL8.out.size))))
       have hrow:=U2.out
       have hpd:=U3.out
       clear HB4 HG4 HL HY U1 U2 U3 hyR
       go_upto_region 32 with fail
       by_cases hj0:jq=0
       ·as_aux_lemma=>
        have hp: ¬(0:Int)<(jq:Int):=by omega
        have PE:=hide (show(T.pend==false)=true by rw [hpd,decide_eq_false (by omega)];rfl)
        have PB:=hide (show True from trivial)
        clear hpd hj0
        refine EJ (n:=163) [] (fun _=> #[]) [(0,0,0,0,0),(0,0,0,0,0),(0,0,0,0,0),(0,0,0,0,0),(0,0,0,0,0),(0,0,0,0,0),(0,0,0,0,0),(0,0,0,0,0),(0,0,0,0,0),(0,0,0,0,0),(0,0,0,0,0),(0,0,0,0,0),(0,0,0,0,0),(0,0,0,0,0),(0,0,0,0,0),(0,0,0,0,0),(0,0,0,0,0),(0,0,0,0,0),(0,0,0,0,0),(0,0,0,0,0),(0,0,0,0,0),(0,0,0,0,0),(0,0,0,0,0)] (fun j=> [(.pointer (some ⟨gs,3,none⟩)),(.int .i64 (T.row:Nat)),(.int .i64 (q:Nat)),(.int .i64 (fs:Nat)),(.int .i64 (T.row:Nat)),(.bool true),(.bool true),(.pointer (some ⟨gs,5,none⟩)),(.bool T.pend),(.int .i64 (jq:Nat)),(.bool false),(.bool false),undef,undef,undef,undef,(.bool false),(.bool true),(.bool true),(.bool true),(.bool true),(.bool true),(.bool true)].getD j undef) [] (fun _=>0) (by kernel_rfl) (by kernel_rfl) (by kernel_rfl) rfl (by kernel_rfl) (DV rfl) (fun i j h=>by revert h;exact DV (p:=fun _=>_) rfl i) (Ao.nil _) (fun hGS=>Pm ⟨?_,?_,?_,?_,?_,?_,?_,?_,?_,?_,?_,?_,?_,?_,?_,?_,?_,?_,?_,?_,?_,?_,?_⟩) ?_
        ·intro L a w' hL hsame hsz hJ AJ hcl
         have hb:=hJ.kept.toBelow (Nat.le_refl _) (by simp)
         have e0:a.eval (.tmp 11)=(.pointer (some ⟨gs,0,none⟩)):=AZ hsame (by kernel_rfl)
         refine Step.val _ rfl rfl (AV rfl) (.pointer (some ⟨gs,3,none⟩)) w' (fun ρ hρ=>?_) (hJ.val hGS hcl hL rfl (Below.refl _ _) _ rfl)
         rw [hρ] at e0
         clear hJ hsame AJ hcl hρ hsz hb
         go_simp
        ·intro L a w' hL hsame hsz hJ AJ hcl
         have hb:=hJ.kept.toBelow (Nat.le_refl _) (by simp)
         have e0:a.eval (.tmp 141)=(.pointer (some ⟨gs,3,none⟩)):=AQ (j:=0) (by kernel_rfl) (hJ.valOf (by decide) (AX AJ 0 (by kernel_rfl)) rfl rfl)
         have hx:=hJ.Aj ((show Box _ gs 43 (scA _ T) from HB8.out)) (by simp)
         have q0:w'.cell? ⟨gs,3,none⟩=some (.int .i64 (T.row:Nat)):=hx.cell 3
         refine Step.val _ rfl rfl (AV rfl) (.int .i64 (T.row:Nat)) w' (fun ρ hρ=>?_) (hJ.val hGS hcl hL rfl (Below.refl _ _) _ rfl)
         clear hx
         rw [hρ] at e0
         clear hJ hsame AJ hcl hρ hsz hb
         go_simp
        ·intro L a w' hL hsame hsz hJ AJ hcl
         have hb:=hJ.kept.toBelow (Nat.le_refl _) (by simp)
         have e0:a.eval (.tmp 16)=(.int .i64 (q:Nat)):=AZ hsame (by kernel_rfl)
         refine Step.val _ rfl rfl (AV rfl) (.int .i64 (q:Nat)) w' (fun ρ hρ=>?_) (hJ.val hGS hcl hL rfl (Below.refl _ _) _ rfl)
         rw [hρ] at e0
         clear hJ hsame AJ hcl hρ hsz hb
         go_simp
        ·intro L a w' hL hsame hsz hJ AJ hcl
         have hb:=hJ.kept.toBelow (Nat.le_refl _) (by simp)
         have e0:a.eval (.tmp 17)=(.int .i64 (fs:Nat)):=AZ hsame (by kernel_rfl)
         refine Step.val _ rfl rfl (AV rfl) (.int .i64 (fs:Nat)) w' (fun ρ hρ=>?_) (hJ.val hGS hcl hL rfl (Below.refl _ _) _ rfl)
         rw [hρ] at e0
         clear hJ hsame AJ hcl hρ hsz hb
         go_simp
        ·intro L a w' hL hsame hsz hJ AJ hcl
         have hb:=hJ.kept.toBelow (Nat.le_refl _) (by simp)
         have e0:a.eval (.tmp 143)=(.int .i64 (q:Nat)):=AQ (j:=2) (by kernel_rfl) (hJ.valOf (by decide) (AX AJ 2 (by kernel_rfl)) rfl rfl)
         have e1:a.eval (.tmp 144)=(.int .i64 (fs:Nat)):=AQ (j:=3) (by kernel_rfl) (hJ.valOf (by decide) (AX AJ 3 (by kernel_rfl)) rfl rfl)
         refine Step.val _ rfl rfl (AV rfl) (.int .i64 (T.row:Nat)) w' (fun ρ hρ=>?_) (hJ.val hGS hcl hL rfl (Below.refl _ _) _ rfl)
         rw [hρ] at e0 e1
         clear hJ hsame AJ hcl hρ hsz hb
         go_simp
         first | (rw [IntWalk.i64_in _ (by omega)];omega) | omega
        ·intro L a w' hL hsame hsz hJ AJ hcl
         have hb:=hJ.kept.toBelow (Nat.le_refl _) (by simp)
         have e0:a.eval (.tmp 142)=(.int .i64 (T.row:Nat)):=AQ (j:=1) (by kernel_rfl) (hJ.valOf (by decide) (AX AJ 1 (by kernel_rfl)) rfl rfl)
         have e1:a.eval (.tmp 145)=(.int .i64 (T.row:Nat)):=AQ (j:=4) (by kernel_rfl) (hJ.valOf (by decide) (AX AJ 4 (by kernel_rfl)) rfl rfl)
         refine Step.val _ rfl rfl (AV rfl) (.bool true) w' (fun ρ hρ=>?_) (hJ.val hGS hcl hL rfl (Below.refl _ _) _ rfl)
         rw [hρ] at e0 e1
         clear hJ hsame AJ hcl hρ hsz hb
         go_simp
        ·intro L a w' hL hsame hsz hJ AJ hcl
         have hb:=hJ.kept.toBelow (Nat.le_refl _) (by simp)
         have e0:a.eval (.tmp 146)=(.bool true):=AQ (j:=5) (by kernel_rfl) (hJ.valOf (by decide) (AX AJ 5 (by kernel_rfl)) rfl rfl)
         refine Step.val _ rfl rfl (AV rfl) (.bool true) w' (fun ρ hρ=>?_) (hJ.val hGS hcl hL rfl (Below.refl _ _) _ rfl)
         rw [hρ] at e0
         clear hJ hsame AJ hcl hρ hsz hb
         go_simp
        ·intro L a w' hL hsame hsz hJ AJ hcl
         have gd:valOf _ 6 a=.bool true:=hJ.valOf (by decide) (AX AJ 6 (by kernel_rfl)) rfl rfl
         have hb:=hJ.kept.toBelow (Nat.le_refl _) (by simp)
         have e0:a.eval (.tmp 11)=(.pointer (some ⟨gs,0,none⟩)):=AZ hsame (by kernel_rfl)
         refine Step.val _ rfl rfl (Ag (g:=6) (b:=true) rfl gd) (.pointer (some ⟨gs,5,none⟩)) w' (fun ρ hρ=>?_) (hJ.val hGS hcl hL rfl (Below.refl _ _) _ rfl)
         rw [hρ] at e0
         clear hJ hsame AJ hcl hρ hsz hb gd
         go_simp
        ·intro L a w' hL hsame hsz hJ AJ hcl
         have gd:valOf _ 6 a=.bool true:=hJ.valOf (by decide) (AX AJ 6 (by kernel_rfl)) rfl rfl
         have hb:=hJ.kept.toBelow (Nat.le_refl _) (by simp)
         have e0:a.eval (.tmp 148)=(.pointer (some ⟨gs,5,none⟩)):=AQ (j:=7) (by kernel_rfl) (hJ.valOf (by decide) (AX AJ 7 (by kernel_rfl)) rfl rfl)
         have hx:=hJ.Aj ((show Box _ gs 43 (scA _ T) from HB8.out)) (by simp)
         have q0:w'.cell? ⟨gs,5,none⟩=some (.bool T.pend):=hx.cell 5
         refine Step.val _ rfl rfl (Ag (g:=6) (b:=true) rfl gd) (.bool T.pend) w' (fun ρ hρ=>?_) (hJ.val hGS hcl hL rfl (Below.refl _ _) _ rfl)
         clear hx
         rw [hρ] at e0
         clear hJ hsame AJ hcl hρ hsz hb gd
         go_simp
        ·intro L a w' hL hsame hsz hJ AJ hcl
         have gd:valOf _ 6 a=.bool true:=hJ.valOf (by decide) (AX AJ 6 (by kernel_rfl)) rfl rfl
         have hb:=hJ.kept.toBelow (Nat.le_refl _) (by simp)
         have e0:a.eval (.tmp 12)=(.int .i64 (jq:Nat)):=AZ hsame (by kernel_rfl)
         refine Step.val _ rfl rfl (Ag (g:=6) (b:=true) rfl gd) (.int .i64 (jq:Nat)) w' (fun ρ hρ=>?_) (hJ.val hGS hcl hL rfl (Below.refl _ _) _ rfl)
         rw [hρ] at e0
         clear hJ hsame AJ hcl hρ hsz hb gd
         go_simp
        ·intro L a w' hL hsame hsz hJ AJ hcl
         have gd:valOf _ 6 a=.bool true:=hJ.valOf (by decide) (AX AJ 6 (by kernel_rfl)) rfl rfl
         have hb:=hJ.kept.toBelow (Nat.le_refl _) (by simp)
         have e0:a.eval (.tmp 150)=(.int .i64 (jq:Nat)):=AQ (j:=9) (by kernel_rfl) (hJ.valOf (by decide) (AX AJ 9 (by kernel_rfl)) rfl rfl)
         refine Step.val _ rfl rfl (Ag (g:=6) (b:=true) rfl gd) (.bool false) w' (fun ρ hρ=>?_) (hJ.val hGS hcl hL rfl (Below.refl _ _) _ rfl)
         rw [hρ] at e0
         have ec0:ρ (.const (.int .i64 0))=(.int .i64 0):=(hρ _).symm
         clear hJ hsame AJ hcl hρ hsz hb gd
         go_simp
         try omega
        ·intro L a w' hL hsame hsz hJ AJ hcl
         have gd:valOf _ 6 a=.bool true:=hJ.valOf (by decide) (AX AJ 6 (by kernel_rfl)) rfl rfl
         have hb:=hJ.kept.toBelow (Nat.le_refl _) (by simp)
         have e0:a.eval (.tmp 151)=(.bool false):=AQ (j:=10) (by kernel_rfl) (hJ.valOf (by decide) (AX AJ 10 (by kernel_rfl)) rfl rfl)
         refine Step.val _ rfl rfl (Ag (g:=6) (b:=true) rfl gd) (.bool false) w' (fun ρ hρ=>?_) (hJ.val hGS hcl hL rfl (Below.refl _ _) _ rfl)
         rw [hρ] at e0
         clear hJ hsame AJ hcl hρ hsz hb gd
         go_simp
        ·intro L a w' hL hsame hsz hJ AJ hcl
         have gd:valOf _ 11 a=.bool false:=hJ.valOf (by decide) (AX AJ 11 (by kernel_rfl)) rfl rfl
         exact GStep.pass _ rfl (Al (g:=11) (b:=true) (c:=false) rfl gd (by decide)) (hJ.val hGS hcl hL rfl (Below.refl _ _) _ rfl)
        ·intro L a w' hL hsame hsz hJ AJ hcl
         have gd:valOf _ 11 a=.bool false:=hJ.valOf (by decide) (AX AJ 11 (by kernel_rfl)) rfl rfl
         exact GStep.pass _ rfl (Al (g:=11) (b:=true) (c:=false) rfl gd (by decide)) (hJ.val hGS hcl hL rfl (Below.refl _ _) _ rfl)
        ·intro L a w' hL hsame hsz hJ AJ hcl
         have gd:valOf _ 11 a=.bool false:=hJ.valOf (by decide) (AX AJ 11 (by kernel_rfl)) rfl rfl
         exact GStep.pass _ rfl (Al (g:=11) (b:=true) (c:=false) rfl gd (by decide)) (hJ.val hGS hcl hL rfl (Below.refl _ _) _ rfl)
        ·intro L a w' hL hsame hsz hJ AJ hcl
         have gd:valOf _ 11 a=.bool false:=hJ.valOf (by decide) (AX AJ 11 (by kernel_rfl)) rfl rfl
         exact GStep.pass _ rfl (Al (g:=11) (b:=true) (c:=false) rfl gd (by decide)) (hJ.val hGS hcl hL rfl (Below.refl _ _) _ rfl)
        ·intro L a w' hL hsame hsz hJ AJ hcl
         have gd:valOf _ 6 a=.bool true:=hJ.valOf (by decide) (AX AJ 6 (by kernel_rfl)) rfl rfl
         have hb:=hJ.kept.toBelow (Nat.le_refl _) (by simp)
         have e0:a.eval (.tmp 152)=(.bool false):=AQ (j:=11) (by kernel_rfl) (hJ.valOf (by decide) (AX AJ 11 (by kernel_rfl)) rfl rfl)
         have e1:a.eval (.tmp 156)=undef:=AQ (j:=15) (by kernel_rfl) (hJ.valOf (by decide) (AX AJ 15 (by kernel_rfl)) rfl rfl)
         refine Step.val _ rfl rfl (Ag (g:=6) (b:=true) rfl gd) (.bool false) w' (fun ρ hρ=>?_) (hJ.val hGS hcl hL rfl (Below.refl _ _) _ rfl)
         rw [hρ] at e0 e1
         have ec0:ρ (.const (.bool false))=(.bool false):=(hρ _).symm
         clear hJ hsame AJ hcl hρ hsz hb gd
         go_simp
        ·intro L a w' hL hsame hsz hJ AJ hcl
         have gd:valOf _ 6 a=.bool true:=hJ.valOf (by decide) (AX AJ 6 (by kernel_rfl)) rfl rfl
         have hb:=hJ.kept.toBelow (Nat.le_refl _) (by simp)
         have e0:a.eval (.tmp 149)=(.bool T.pend):=AQ (j:=8) (by kernel_rfl) (hJ.valOf (by decide) (AX AJ 8 (by kernel_rfl)) rfl rfl)
         have e1:a.eval (.tmp 157)=(.bool false):=AQ (j:=16) (by kernel_rfl) (hJ.valOf (by decide) (AX AJ 16 (by kernel_rfl)) rfl rfl)
         refine Step.val _ rfl rfl (Ag (g:=6) (b:=true) rfl gd) (.bool true) w' (fun ρ hρ=>?_) (hJ.val hGS hcl hL rfl (Below.refl _ _) _ rfl)
         rw [hρ] at e0 e1
         clear hJ hsame AJ hcl hρ hsz hb gd
         go_simp
         first | done | exact eq_of_beq PE.out | rw [PE.out]
        ·intro L a w' hL hsame hsz hJ AJ hcl
         have hb:=hJ.kept.toBelow (Nat.le_refl _) (by simp)
         have e0:a.eval (.tmp 147)=(.bool true):=AQ (j:=6) (by kernel_rfl) (hJ.valOf (by decide) (AX AJ 6 (by kernel_rfl)) rfl rfl)
         have e1:a.eval (.tmp 158)=(.bool true):=AQ (j:=17) (by kernel_rfl) (hJ.valOf (by decide) (AX AJ 17 (by kernel_rfl)) rfl rfl)
         refine Step.val _ rfl rfl (AV rfl) (.bool true) w' (fun ρ hρ=>?_) (hJ.val hGS hcl hL rfl (Below.refl _ _) _ rfl)
         rw [hρ] at e0 e1
         have ec0:ρ (.const (.bool false))=(.bool false):=(hρ _).symm
         clear hJ hsame AJ hcl hρ hsz hb
         go_simp
        ·intro L a w' hL hsame hsz hJ AJ hcl
         have hb:=hJ.kept.toBelow (Nat.le_refl _) (by simp)
         have e0:a.eval (.tmp 159)=(.bool true):=AQ (j:=18) (by kernel_rfl) (hJ.valOf (by decide) (AX AJ 18 (by kernel_rfl)) rfl rfl)
         refine Step.val _ rfl rfl (AV rfl) (.bool true) w' (fun ρ hρ=>?_) (hJ.val hGS hcl hL rfl (Below.refl _ _) _ rfl)
         rw [hρ] at e0
         clear hJ hsame AJ hcl hρ hsz hb
         go_simp
        ·intro L a w' hL hsame hsz hJ AJ hcl
         have gd:valOf _ 19 a=.bool true:=hJ.valOf (by decide) (AX AJ 19 (by kernel_rfl)) rfl rfl
         have hb:=hJ.kept.toBelow (Nat.le_refl _) (by simp)
         refine Step.call _ rfl rfl (Ag (g:=19) (b:=true) rfl gd) 19 #[] (fun ρ hρ=>?_) ?_
         ·skip
          have ef:ρ (.func 19)=.func (.func 19) #[] #[] :=(hρ _).symm
          clear hJ hsame AJ hcl hρ hsz hb gd
          go_simp
         ·refine(SR.out _ hb).mono ?_
          rintro e w2 ⟨rfl,bb⟩
          exact⟨_,rfl,hJ.val hGS hcl hL rfl bb _ rfl⟩
        ·intro L a w' hL hsame hsz hJ AJ hcl
         have hb:=hJ.kept.toBelow (Nat.le_refl _) (by simp)
         have e0:a.eval (.tmp 160)=(.bool true):=AQ (j:=19) (by kernel_rfl) (hJ.valOf (by decide) (AX AJ 19 (by kernel_rfl)) rfl rfl)
         have e1:a.eval (.tmp 161)=(.bool true):=AQ (j:=20) (by kernel_rfl) (hJ.valOf (by decide) (AX AJ 20 (by kernel_rfl)) rfl rfl)
         refine Step.val _ rfl rfl (AV rfl) (.bool true) w' (fun ρ hρ=>?_) (hJ.val hGS hcl hL rfl (Below.refl _ _) _ rfl)
         rw [hρ] at e0 e1
         have ec0:ρ (.const (.bool false))=(.bool false):=(hρ _).symm
         clear hJ hsame AJ hcl hρ hsz hb
         go_simp
        ·intro L a w' hL hsame hsz hJ AJ hcl
         have hb:=hJ.kept.toBelow (Nat.le_refl _) (by simp)
         have e0:a.eval (.tmp 162)=(.bool true):=AQ (j:=21) (by kernel_rfl) (hJ.valOf (by decide) (AX AJ 21 (by kernel_rfl)) rfl rfl)
         refine Step.val _ rfl rfl (AV rfl) (.bool true) w' (fun ρ hρ=>?_) (hJ.val hGS hcl hL rfl (Below.refl _ _) _ rfl)
         rw [hρ] at e0
         clear hJ hsame AJ hcl hρ hsz hb
         go_simp
        ·intro u w' hF
         change Exit.then _ _ Exit.normal (Act.put (Act.put (Act.put (Act.put (Act.put (Act.put (Act.put (Act.put (Act.put (Act.put (Act.put (Act.put (Act.put (Act.put (Act.put (Act.put (Act.put (Act.put (Act.put (Act.put (Act.put (Act.put (Act.put (BD _ u 0 _) (some 141) (u 0)) (some 142) (u 1)) (some 143) (u 2)) (some 144) (u 3)) (some 145) (u 4)) (some 146) (u 5)) (some 147) (u 6)) (some 148) (u 7)) (some 149) (u 8)) (some 150) (u 9)) (some 151) (u 10)) (some 152) (u 11)) (some 153) (u 12)) (some 154) (u 13)) (some 155) (u 14)) (some 156) (u 15)) (some 157) (u 16)) (some 158) (u 17)) (some 159) (u 18)) (some 160) (u 19)) (some 161) (u 20)) (some 162) (u 21)) (some 8) (u 22)) _
         simp only [BD]
         have f22:u 22=.bool true:=hF.Qa (j:=22) (by decide) rfl rfl
         have hk:=hF.kept.toBelow (Nat.le_refl _) (by simp)
         clear hF
         generalize u 0=z0
         generalize u 1=z1
         generalize u 2=z2
         generalize u 3=z3
         generalize u 4=z4
         generalize u 5=z5
         generalize u 6=z6
         generalize u 7=z7
         generalize u 8=z8
         generalize u 9=z9
         generalize u 10=z10
         generalize u 11=z11
         generalize u 12=z12
         generalize u 13=z13
         generalize u 14=z14
         generalize u 15=z15
         generalize u 16=z16
         generalize u 17=z17
         generalize u 18=z18
         generalize u 19=z19
         generalize u 20=z20
         generalize u 21=z21
         generalize u 22=z22 at f22⊢
         subst f22
         go_simp
         go_step
         go_wp2_with fail
         go_ret
         exact⟨rfl,HL8.out.trans (hk.mono HL8.out.size)⟩
       ·as_aux_lemma=>
        have hp:(0:Int)<(jq:Int):=by omega
        have hK0:(0:Int)<(K:Int):=by omega
        obtain⟨pb,hpb⟩: ∃pb,decide (jq%K=0)=pb:=⟨_,rfl⟩
        have PB:=hide (show(((jq:Int)%(K:Int))==0)=pb by
         rw [<- hpb,Bool.eq_iff_iff,beq_iff_eq,decide_eq_true_eq]
         omega)
        have PE:=hide (show(T.pend==pb)=true by
         rw [hpd, <- hpb]
         have:decide (0<jq/\jq%K=0)=decide (jq%K=0):=by
          rw [decide_eq_decide]
          exact⟨fun h=>h.2,fun h=>⟨by omega,h⟩⟩
         rw [this]
         simp)
        clear hpd hj0 hpb
        refine EJ (n:=163) [] (fun _=> #[]) [(0,0,0,0,0),(0,0,0,0,0),(0,0,0,0,0),(0,0,0,0,0),(0,0,0,0,0),(0,0,0,0,0),(0,0,0,0,0),(0,0,0,0,0),(0,0,0,0,0),(0,0,0,0,0),(0,0,0,0,0),(0,0,0,0,0),(0,0,0,0,0),(0,0,0,0,0),(0,0,0,0,0),(0,0,0,0,0),(0,0,0,0,0),(0,0,0,0,0),(0,0,0,0,0),(0,0,0,0,0),(0,0,0,0,0),(0,0,0,0,0),(0,0,0,0,0)] (fun j=> [(.pointer (some ⟨gs,3,none⟩)),(.int .i64 (T.row:Nat)),(.int .i64 (q:Nat)),(.int .i64 (fs:Nat)),(.int .i64 (T.row:Nat)),(.bool true),(.bool true),(.pointer (some ⟨gs,5,none⟩)),(.bool T.pend),(.int .i64 (jq:Nat)),(.bool true),(.bool true),(.int .i64 (jq:Nat)),(.int .i64 (K:Nat)),(.int .i64 ((jq:Int)%(K:Int))),(.bool pb),(.bool pb),(.bool true),(.bool true),(.bool true),(.bool true),(.bool true),(.bool true)].getD j undef) [] (fun _=>0) (by kernel_rfl) (by kernel_rfl) (by kernel_rfl) rfl (by kernel_rfl) (DV rfl) (fun i j h=>by revert h;exact DV (p:=fun _=>_) rfl i) (Ao.nil _) (fun hGS=>Pm ⟨?_,?_,?_,?_,?_,?_,?_,?_,?_,?_,?_,?_,?_,?_,?_,?_,?_,?_,?_,?_,?_,?_,?_⟩) ?_
        ·intro L a w' hL hsame hsz hJ AJ hcl
         have hb:=hJ.kept.toBelow (Nat.le_refl _) (by simp)
         have e0:a.eval (.tmp 11)=(.pointer (some ⟨gs,0,none⟩)):=AZ hsame (by kernel_rfl)
         refine Step.val _ rfl rfl (AV rfl) (.pointer (some ⟨gs,3,none⟩)) w' (fun ρ hρ=>?_) (hJ.val hGS hcl hL rfl (Below.refl _ _) _ rfl)
         rw [hρ] at e0
         clear hJ hsame AJ hcl hρ hsz hb
         go_simp
        ·intro L a w' hL hsame hsz hJ AJ hcl
         have hb:=hJ.kept.toBelow (Nat.le_refl _) (by simp)
         have e0:a.eval (.tmp 141)=(.pointer (some ⟨gs,3,none⟩)):=AQ (j:=0) (by kernel_rfl) (hJ.valOf (by decide) (AX AJ 0 (by kernel_rfl)) rfl rfl)
         have hx:=hJ.Aj ((show Box _ gs 43 (scA _ T) from HB8.out)) (by simp)
         have q0:w'.cell? ⟨gs,3,none⟩=some (.int .i64 (T.row:Nat)):=hx.cell 3
         refine Step.val _ rfl rfl (AV rfl) (.int .i64 (T.row:Nat)) w' (fun ρ hρ=>?_) (hJ.val hGS hcl hL rfl (Below.refl _ _) _ rfl)
         clear hx
         rw [hρ] at e0
         clear hJ hsame AJ hcl hρ hsz hb
         go_simp
        ·intro L a w' hL hsame hsz hJ AJ hcl
         have hb:=hJ.kept.toBelow (Nat.le_refl _) (by simp)
         have e0:a.eval (.tmp 16)=(.int .i64 (q:Nat)):=AZ hsame (by kernel_rfl)
         refine Step.val _ rfl rfl (AV rfl) (.int .i64 (q:Nat)) w' (fun ρ hρ=>?_) (hJ.val hGS hcl hL rfl (Below.refl _ _) _ rfl)
         rw [hρ] at e0
         clear hJ hsame AJ hcl hρ hsz hb
         go_simp
        ·intro L a w' hL hsame hsz hJ AJ hcl
         have hb:=hJ.kept.toBelow (Nat.le_refl _) (by simp)
         have e0:a.eval (.tmp 17)=(.int .i64 (fs:Nat)):=AZ hsame (by kernel_rfl)
         refine Step.val _ rfl rfl (AV rfl) (.int .i64 (fs:Nat)) w' (fun ρ hρ=>?_) (hJ.val hGS hcl hL rfl (Below.refl _ _) _ rfl)
         rw [hρ] at e0
         clear hJ hsame AJ hcl hρ hsz hb
         go_simp
        ·intro L a w' hL hsame hsz hJ AJ hcl
         have hb:=hJ.kept.toBelow (Nat.le_refl _) (by simp)
         have e0:a.eval (.tmp 143)=(.int .i64 (q:Nat)):=AQ (j:=2) (by kernel_rfl) (hJ.valOf (by decide) (AX AJ 2 (by kernel_rfl)) rfl rfl)
         have e1:a.eval (.tmp 144)=(.int .i64 (fs:Nat)):=AQ (j:=3) (by kernel_rfl) (hJ.valOf (by decide) (AX AJ 3 (by kernel_rfl)) rfl rfl)
         refine Step.val _ rfl rfl (AV rfl) (.int .i64 (T.row:Nat)) w' (fun ρ hρ=>?_) (hJ.val hGS hcl hL rfl (Below.refl _ _) _ rfl)
         rw [hρ] at e0 e1
         clear hJ hsame AJ hcl hρ hsz hb
         go_simp
         first | (rw [IntWalk.i64_in _ (by omega)];omega) | omega
        ·intro L a w' hL hsame hsz hJ AJ hcl
         have hb:=hJ.kept.toBelow (Nat.le_refl _) (by simp)
         have e0:a.eval (.tmp 142)=(.int .i64 (T.row:Nat)):=AQ (j:=1) (by kernel_rfl) (hJ.valOf (by decide) (AX AJ 1 (by kernel_rfl)) rfl rfl)
         have e1:a.eval (.tmp 145)=(.int .i64 (T.row:Nat)):=AQ (j:=4) (by kernel_rfl) (hJ.valOf (by decide) (AX AJ 4 (by kernel_rfl)) rfl rfl)
         refine Step.val _ rfl rfl (AV rfl) (.bool true) w' (fun ρ hρ=>?_) (hJ.val hGS hcl hL rfl (Below.refl _ _) _ rfl)
         rw [hρ] at e0 e1
         clear hJ hsame AJ hcl hρ hsz hb
         go_simp
        ·intro L a w' hL hsame hsz hJ AJ hcl
         have hb:=hJ.kept.toBelow (Nat.le_refl _) (by simp)
         have e0:a.eval (.tmp 146)=(.bool true):=AQ (j:=5) (by kernel_rfl) (hJ.valOf (by decide) (AX AJ 5 (by kernel_rfl)) rfl rfl)
         refine Step.val _ rfl rfl (AV rfl) (.bool true) w' (fun ρ hρ=>?_) (hJ.val hGS hcl hL rfl (Below.refl _ _) _ rfl)
         rw [hρ] at e0
         clear hJ hsame AJ hcl hρ hsz hb
         go_simp
        ·intro L a w' hL hsame hsz hJ AJ hcl
         have gd:valOf _ 6 a=.bool true:=hJ.valOf (by decide) (AX AJ 6 (by kernel_rfl)) rfl rfl
         have hb:=hJ.kept.toBelow (Nat.le_refl _) (by simp)
         have e0:a.eval (.tmp 11)=(.pointer (some ⟨gs,0,none⟩)):=AZ hsame (by kernel_rfl)
         refine Step.val _ rfl rfl (Ag (g:=6) (b:=true) rfl gd) (.pointer (some ⟨gs,5,none⟩)) w' (fun ρ hρ=>?_) (hJ.val hGS hcl hL rfl (Below.refl _ _) _ rfl)
         rw [hρ] at e0
         clear hJ hsame AJ hcl hρ hsz hb gd
         go_simp
        ·intro L a w' hL hsame hsz hJ AJ hcl
         have gd:valOf _ 6 a=.bool true:=hJ.valOf (by decide) (AX AJ 6 (by kernel_rfl)) rfl rfl
         have hb:=hJ.kept.toBelow (Nat.le_refl _) (by simp)
         have e0:a.eval (.tmp 148)=(.pointer (some ⟨gs,5,none⟩)):=AQ (j:=7) (by kernel_rfl) (hJ.valOf (by decide) (AX AJ 7 (by kernel_rfl)) rfl rfl)
         have hx:=hJ.Aj ((show Box _ gs 43 (scA _ T) from HB8.out)) (by simp)
         have q0:w'.cell? ⟨gs,5,none⟩=some (.bool T.pend):=hx.cell 5
         refine Step.val _ rfl rfl (Ag (g:=6) (b:=true) rfl gd) (.bool T.pend) w' (fun ρ hρ=>?_) (hJ.val hGS hcl hL rfl (Below.refl _ _) _ rfl)
         clear hx
         rw [hρ] at e0
         clear hJ hsame AJ hcl hρ hsz hb gd
         go_simp
        ·intro L a w' hL hsame hsz hJ AJ hcl
         have gd:valOf _ 6 a=.bool true:=hJ.valOf (by decide) (AX AJ 6 (by kernel_rfl)) rfl rfl
         have hb:=hJ.kept.toBelow (Nat.le_refl _) (by simp)
         have e0:a.eval (.tmp 12)=(.int .i64 (jq:Nat)):=AZ hsame (by kernel_rfl)
         refine Step.val _ rfl rfl (Ag (g:=6) (b:=true) rfl gd) (.int .i64 (jq:Nat)) w' (fun ρ hρ=>?_) (hJ.val hGS hcl hL rfl (Below.refl _ _) _ rfl)
         rw [hρ] at e0
         clear hJ hsame AJ hcl hρ hsz hb gd
         go_simp
        ·intro L a w' hL hsame hsz hJ AJ hcl
         have gd:valOf _ 6 a=.bool true:=hJ.valOf (by decide) (AX AJ 6 (by kernel_rfl)) rfl rfl
         have hb:=hJ.kept.toBelow (Nat.le_refl _) (by simp)
         have e0:a.eval (.tmp 150)=(.int .i64 (jq:Nat)):=AQ (j:=9) (by kernel_rfl) (hJ.valOf (by decide) (AX AJ 9 (by kernel_rfl)) rfl rfl)
         refine Step.val _ rfl rfl (Ag (g:=6) (b:=true) rfl gd) (.bool true) w' (fun ρ hρ=>?_) (hJ.val hGS hcl hL rfl (Below.refl _ _) _ rfl)
         rw [hρ] at e0
         have ec0:ρ (.const (.int .i64 0))=(.int .i64 0):=(hρ _).symm
         clear hJ hsame AJ hcl hρ hsz hb gd
         go_simp
         try omega
        ·intro L a w' hL hsame hsz hJ AJ hcl
         have gd:valOf _ 6 a=.bool true:=hJ.valOf (by decide) (AX AJ 6 (by kernel_rfl)) rfl rfl
         have hb:=hJ.kept.toBelow (Nat.le_refl _) (by simp)
         have e0:a.eval (.tmp 151)=(.bool true):=AQ (j:=10) (by kernel_rfl) (hJ.valOf (by decide) (AX AJ 10 (by kernel_rfl)) rfl rfl)
         refine Step.val _ rfl rfl (Ag (g:=6) (b:=true) rfl gd) (.bool true) w' (fun ρ hρ=>?_) (hJ.val hGS hcl hL rfl (Below.refl _ _) _ rfl)
         rw [hρ] at e0
         clear hJ hsame AJ hcl hρ hsz hb gd
         go_simp
        ·intro L a w' hL hsame hsz hJ AJ hcl
         have gd:valOf _ 11 a=.bool true:=hJ.valOf (by decide) (AX AJ 11 (by kernel_rfl)) rfl rfl
         have hb:=hJ.kept.toBelow (Nat.le_refl _) (by simp)
         have e0:a.eval (.tmp 12)=(.int .i64 (jq:Nat)):=AZ hsame (by kernel_rfl)
         refine Step.val _ rfl rfl (Ag (g:=11) (b:=true) rfl gd) (.int .i64 (jq:Nat)) w' (fun ρ hρ=>?_) (hJ.val hGS hcl hL rfl (Below.refl _ _) _ rfl)
         rw [hρ] at e0
         clear hJ hsame AJ hcl hρ hsz hb gd
         go_simp
        ·intro L a w' hL hsame hsz hJ AJ hcl
         have gd:valOf _ 11 a=.bool true:=hJ.valOf (by decide) (AX AJ 11 (by kernel_rfl)) rfl rfl
         have hb:=hJ.kept.toBelow (Nat.le_refl _) (by simp)
         have e0:a.eval (.tmp 10)=(.int .i64 (K:Nat)):=AZ hsame (by kernel_rfl)
         refine Step.val _ rfl rfl (Ag (g:=11) (b:=true) rfl gd) (.int .i64 (K:Nat)) w' (fun ρ hρ=>?_) (hJ.val hGS hcl hL rfl (Below.refl _ _) _ rfl)
         rw [hρ] at e0
         clear hJ hsame AJ hcl hρ hsz hb gd
         go_simp
        ·intro L a w' hL hsame hsz hJ AJ hcl
         have gd:valOf _ 11 a=.bool true:=hJ.valOf (by decide) (AX AJ 11 (by kernel_rfl)) rfl rfl
         have hb:=hJ.kept.toBelow (Nat.le_refl _) (by simp)
         have e0:a.eval (.tmp 153)=(.int .i64 (jq:Nat)):=AQ (j:=12) (by kernel_rfl) (hJ.valOf (by decide) (AX AJ 12 (by kernel_rfl)) rfl rfl)
         have e1:a.eval (.tmp 154)=(.int .i64 (K:Nat)):=AQ (j:=13) (by kernel_rfl) (hJ.valOf (by decide) (AX AJ 13 (by kernel_rfl)) rfl rfl)
         refine Step.val _ rfl rfl (Ag (g:=11) (b:=true) rfl gd) (.int .i64 ((jq:Int)%(K:Int))) w' (fun ρ hρ=>?_) (hJ.val hGS hcl hL rfl (Below.refl _ _) _ rfl)
         rw [hρ] at e0 e1
         clear hJ hsame AJ hcl hρ hsz hb gd
         go_simp
         rw [if_neg (by omega),Int.tmod_eq_emod_of_nonneg (by omega)]
        ·intro L a w' hL hsame hsz hJ AJ hcl
         have gd:valOf _ 11 a=.bool true:=hJ.valOf (by decide) (AX AJ 11 (by kernel_rfl)) rfl rfl
         have hb:=hJ.kept.toBelow (Nat.le_refl _) (by simp)
         have e0:a.eval (.tmp 155)=(.int .i64 ((jq:Int)%(K:Int))):=AQ (j:=14) (by kernel_rfl) (hJ.valOf (by decide) (AX AJ 14 (by kernel_rfl)) rfl rfl)
         refine Step.val _ rfl rfl (Ag (g:=11) (b:=true) rfl gd) (.bool pb) w' (fun ρ hρ=>?_) (hJ.val hGS hcl hL rfl (Below.refl _ _) _ rfl)
         rw [hρ] at e0
         have ec0:ρ (.const (.int .i64 0))=(.int .i64 0):=(hρ _).symm
         clear hJ hsame AJ hcl hρ hsz hb gd
         go_simp
         try(rw [PB.out])
        ·intro L a w' hL hsame hsz hJ AJ hcl
         have gd:valOf _ 6 a=.bool true:=hJ.valOf (by decide) (AX AJ 6 (by kernel_rfl)) rfl rfl
         have hb:=hJ.kept.toBelow (Nat.le_refl _) (by simp)
         have e0:a.eval (.tmp 152)=(.bool true):=AQ (j:=11) (by kernel_rfl) (hJ.valOf (by decide) (AX AJ 11 (by kernel_rfl)) rfl rfl)
         have e1:a.eval (.tmp 156)=(.bool pb):=AQ (j:=15) (by kernel_rfl) (hJ.valOf (by decide) (AX AJ 15 (by kernel_rfl)) rfl rfl)
         refine Step.val _ rfl rfl (Ag (g:=6) (b:=true) rfl gd) (.bool pb) w' (fun ρ hρ=>?_) (hJ.val hGS hcl hL rfl (Below.refl _ _) _ rfl)
         rw [hρ] at e0 e1
         have ec0:ρ (.const (.bool false))=(.bool false):=(hρ _).symm
         clear hJ hsame AJ hcl hρ hsz hb gd
         go_simp
        ·intro L a w' hL hsame hsz hJ AJ hcl
         have gd:valOf _ 6 a=.bool true:=hJ.valOf (by decide) (AX AJ 6 (by kernel_rfl)) rfl rfl
         have hb:=hJ.kept.toBelow (Nat.le_refl _) (by simp)
         have e0:a.eval (.tmp 149)=(.bool T.pend):=AQ (j:=8) (by kernel_rfl) (hJ.valOf (by decide) (AX AJ 8 (by kernel_rfl)) rfl rfl)
         have e1:a.eval (.tmp 157)=(.bool pb):=AQ (j:=16) (by kernel_rfl) (hJ.valOf (by decide) (AX AJ 16 (by kernel_rfl)) rfl rfl)
         refine Step.val _ rfl rfl (Ag (g:=6) (b:=true) rfl gd) (.bool true) w' (fun ρ hρ=>?_) (hJ.val hGS hcl hL rfl (Below.refl _ _) _ rfl)
         rw [hρ] at e0 e1
         clear hJ hsame AJ hcl hρ hsz hb gd
         go_simp
         first | done | exact eq_of_beq PE.out | rw [PE.out]
        ·intro L a w' hL hsame hsz hJ AJ hcl
         have hb:=hJ.kept.toBelow (Nat.le_refl _) (by simp)
         have e0:a.eval (.tmp 147)=(.bool true):=AQ (j:=6) (by kernel_rfl) (hJ.valOf (by decide) (AX AJ 6 (by kernel_rfl)) rfl rfl)
         have e1:a.eval (.tmp 158)=(.bool true):=AQ (j:=17) (by kernel_rfl) (hJ.valOf (by decide) (AX AJ 17 (by kernel_rfl)) rfl rfl)
         refine Step.val _ rfl rfl (AV rfl) (.bool true) w' (fun ρ hρ=>?_) (hJ.val hGS hcl hL rfl (Below.refl _ _) _ rfl)
         rw [hρ] at e0 e1
         have ec0:ρ (.const (.bool false))=(.bool false):=(hρ _).symm
         clear hJ hsame AJ hcl hρ hsz hb
         go_simp
        ·intro L a w' hL hsame hsz hJ AJ hcl
         have hb:=hJ.kept.toBelow (Nat.le_refl _) (by simp)
         have e0:a.eval (.tmp 159)=(.bool true):=AQ (j:=18) (by kernel_rfl) (hJ.valOf (by decide) (AX AJ 18 (by kernel_rfl)) rfl rfl)
         refine Step.val _ rfl rfl (AV rfl) (.bool true) w' (fun ρ hρ=>?_) (hJ.val hGS hcl hL rfl (Below.refl _ _) _ rfl)
         rw [hρ] at e0
         clear hJ hsame AJ hcl hρ hsz hb
         go_simp
        ·intro L a w' hL hsame hsz hJ AJ hcl
         have gd:valOf _ 19 a=.bool true:=hJ.valOf (by decide) (AX AJ 19 (by kernel_rfl)) rfl rfl
         have hb:=hJ.kept.toBelow (Nat.le_refl _) (by simp)
         refine Step.call _ rfl rfl (Ag (g:=19) (b:=true) rfl gd) 19 #[] (fun ρ hρ=>?_) ?_
         ·skip
          have ef:ρ (.func 19)=.func (.func 19) #[] #[] :=(hρ _).symm
          clear hJ hsame AJ hcl hρ hsz hb gd
          go_simp
         ·refine(SR.out _ hb).mono ?_
          rintro e w2 ⟨rfl,bb⟩
          exact⟨_,rfl,hJ.val hGS hcl hL rfl bb _ rfl⟩
        ·intro L a w' hL hsame hsz hJ AJ hcl
         have hb:=hJ.kept.toBelow (Nat.le_refl _) (by simp)
         have e0:a.eval (.tmp 160)=(.bool true):=AQ (j:=19) (by kernel_rfl) (hJ.valOf (by decide) (AX AJ 19 (by kernel_rfl)) rfl rfl)
         have e1:a.eval (.tmp 161)=(.bool true):=AQ (j:=20) (by kernel_rfl) (hJ.valOf (by decide) (AX AJ 20 (by kernel_rfl)) rfl rfl)
         refine Step.val _ rfl rfl (AV rfl) (.bool true) w' (fun ρ hρ=>?_) (hJ.val hGS hcl hL rfl (Below.refl _ _) _ rfl)
         rw [hρ] at e0 e1
         have ec0:ρ (.const (.bool false))=(.bool false):=(hρ _).symm
         clear hJ hsame AJ hcl hρ hsz hb
         go_simp
        ·intro L a w' hL hsame hsz hJ AJ hcl
         have hb:=hJ.kept.toBelow (Nat.le_refl _) (by simp)
         have e0:a.eval (.tmp 162)=(.bool true):=AQ (j:=21) (by kernel_rfl) (hJ.valOf (by decide) (AX AJ 21 (by kernel_rfl)) rfl rfl)
         refine Step.val _ rfl rfl (AV rfl) (.bool true) w' (fun ρ hρ=>?_) (hJ.val hGS hcl hL rfl (Below.refl _ _) _ rfl)
         rw [hρ] at e0
         clear hJ hsame AJ hcl hρ hsz hb
         go_simp
        ·intro u w' hF
         change Exit.then _ _ Exit.normal (Act.put (Act.put (Act.put (Act.put (Act.put (Act.put (Act.put (Act.put (Act.put (Act.put (Act.put (Act.put (Act.put (Act.put (Act.put (Act.put (Act.put (Act.put (Act.put (Act.put (Act.put (Act.put (Act.put (BD _ u 0 _) (some 141) (u 0)) (some 142) (u 1)) (some 143) (u 2)) (some 144) (u 3)) (some 145) (u 4)) (some 146) (u 5)) (some 147) (u 6)) (some 148) (u 7)) (some 149) (u 8)) (some 150) (u 9)) (some 151) (u 10)) (some 152) (u 11)) (some 153) (u 12)) (some 154) (u 13)) (some 155) (u 14)) (some 156) (u 15)) (some 157) (u 16)) (some 158) (u 17)) (some 159) (u 18)) (some 160) (u 19)) (some 161) (u 20)) (some 162) (u 21)) (some 8) (u 22)) _
         simp only [BD]
         have f22:u 22=.bool true:=hF.Qa (j:=22) (by decide) rfl rfl
         have hk:=hF.kept.toBelow (Nat.le_refl _) (by simp)
         clear hF
         generalize u 0=z0
         generalize u 1=z1
         generalize u 2=z2
         generalize u 3=z3
         generalize u 4=z4
         generalize u 5=z5
         generalize u 6=z6
         generalize u 7=z7
         generalize u 8=z8
         generalize u 9=z9
         generalize u 10=z10
         generalize u 11=z11
         generalize u 12=z12
         generalize u 13=z13
         generalize u 14=z14
         generalize u 15=z15
         generalize u 16=z16
         generalize u 17=z17
         generalize u 18=z18
         generalize u 19=z19
         generalize u 20=z20
         generalize u 21=z21
         generalize u 22=z22 at f22⊢
         subst f22
         go_simp
         go_step
         go_wp2_with fail
         go_ret
         exact⟨rfl,HL8.out.trans (hk.mono HL8.out.size)⟩
end Go.Proofs.YtoaabebgmdbjeaaGreatDoor
