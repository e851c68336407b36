/- SourceMargins: margins that may be are set, others not; lines put in and taken out stay within them. (written by tools/gensourcemargins.py) -/
import Derived.Test.YteecohpaecgdlaaGreatDoorQa29
set_option maxRecDepth 100000
set_option maxHeartbeats 16000000
set_option linter.unusedVariables false
namespace Go.Proofs.YteecohpaecgdlaaGreatDoor
open Go Go.RowKit
theorem Mg (kcs:Array Value) (wa wb wn:Int) (a b m:Nat) (S:SN.Sc) (w:World) (hk13:kcs.size=13) (hS:SN.Ad S) (hR5:S.g.rows<=5) (hK9:S.g.AB<=9) (hT:Gb w) (ht:Ez w) (ha9:a<=9) (hb9:b<=9) (hm1:1<=m) (hm6:m<=6)
  (KS:Hid (∀w',Below w.heap.size w w'->Calls Tryz.prog 17 #[.agg kcs] w' (Ay w' S)))
  (WA:Hid (∀w',Calls Tryz.prog 25 #[.int .i64 wa,.int .i64 0,.int .i64 9] w' fun e w''=>e=.returned (.int .i64 (a:Nat))/\w'=w''))
  (WB:Hid (∀w',Calls Tryz.prog 25 #[.int .i64 wb,.int .i64 0,.int .i64 9] w' fun e w''=>e=.returned (.int .i64 (b:Nat))/\w'=w''))
  (WN:Hid (∀w',Calls Tryz.prog 25 #[.int .i64 wn,.int .i64 1,.int .i64 6] w' fun e w''=>e=.returned (.int .i64 (m:Nat))/\w'=w'')):
  Calls Tryz.prog 10 #[.agg kcs,.int .i64 wa,.int .i64 wb,.int .i64 wn] w fun e w'=>e=.returned (.bool true)/\Below w.heap.size w w':=by
 have RS:=hide hS
 have HT:=hide hT
 have HTB:=hide ht
 have LO0:=hide (Below.refl w.heap.size w)
 obtain⟨R,hR⟩: ∃R,S.g.rows=R:=⟨_,rfl⟩
 have hR1:1<=R:=hR▸hS.g.1
 have hR5':R<=5:=hR▸hR5
 obtain⟨lo,hlo⟩: ∃l,SN.FC a=l:=⟨_,rfl⟩
 obtain⟨hi,hhi⟩: ∃l,SN.FE S b=l:=⟨_,rfl⟩
 have lo_:(a<=1->lo=0)/\(1<=a->lo=a-1):=by subst hlo;unfold SN.FC;omega
 have hi_:(b=0->hi=R-1)/\(1<=b->b<=R->hi=b-1)/\(R<=b->hi=R-1)/\hi<R:=by
  subst hhi hR
  unfold SN.FE
  split<;>omega
 obtain⟨T,hTT⟩: ∃T,SN.doS S 4 0 0 0 114 [(a:Int),(b:Int)] =T:=⟨_,rfl⟩
 have RT:=hide (hTT▸SN.IV hS 4 0 0 0 114 [(a:Int),(b:Int)] :SN.Ad T)
 have eT:=(SN.KZ S hS.g.1 a b).symm.trans hTT
 rw [hlo,hhi] at eT
 have TY:=hide (fun (h:lo<hi)=>SN.Vx hS h (by rw [hR];exact hi_.2.2.2) T (by rw [if_pos h] at eT;exact eT))
 have TN:=hide (fun (h: ¬lo<hi)=>(show S=T by rw [if_neg h] at eT;exact eT))
 have DO:=hide (fun w' v' g (hw:Below w.heap.size w w') (hb:Box w' g 3 #[.int .i64 (a:Nat),.int .i64 (b:Nat)]) h=>hTT▸Mt S v' 4 114 [(a:Int),(b:Int)] 2 g w' hS rfl (by omega) (fun x hx=>by simp at hx;omega) (by omega) (hT.keep hw) hb h)
 have DM:=hide (fun fn w' v' g (hw:Below w.heap.size w w') (hb:Box w' g 3 #[.int .i64 (m:Nat)]) h=>Mt T v' 4 fn [(m:Int)] 1 g w' RT.out rfl (by omega) (fun x hx=>by simp at hx;omega) (by omega) (hT.keep hw) hb h)
 have LOF:=hide lo_
 have HIF:=hide hi_
 have ERR:=hide hR
 have HNS:=hide (show S.g.rows*S.g.AB<=1099511627776 by have:=Nat.mul_le_mul hR5 hK9;omega)
 clear hT ht hlo hhi hTT eT hS lo_ hi_ hR hR5 hK9
 go_enter Tryz.func10,Tryz.ntmps10
 go_wp2_with (first | (refine Hf hk13 rfl _ rfl rfl ?_;intro gk wk hKB hbk hlk) | (refine F6 hKB rfl _ rfl rfl ?_))
 have LO1:=hide (LO0.out.trans (hbk.mono LO0.out.size))
 clear LO0 hbk
 refine(KS.out _ LO1.out).mono ?_
 rintro e wb1 ⟨v1,rfl,⟨x1,rfl,hg1⟩,hb1⟩
 have LO2:=hide (LO1.out.trans (hb1.mono LO1.out.size))
 clear LO1 hb1
 obtain⟨A1,c1,rfl⟩:=Af hg1
 have TV:=hide hg1
 clear hg1
 go_upto_region 2 with (first | (refine BG rfl rfl ?_;intro gs qg qh J5 Vk Jf Vl) | (refine AQ J5 Vk rfl _ _ rfl rfl rfl rfl ?_;intro D9 OH Jg Vm))
 have fU:w.heap.size<=gs:=by have:=LO2.out.size;omega
 have TW:=hide (TV.out.low Jf)
 have LO3:=hide (LO2.out.trans (Jf.mono LO2.out.size))
 clear TV LO2 Jf
 have OO:=hide (TW.out.kept J5 (by decide) Jg)
 have LO4:=hide (LO3.out.trans (Jg.toBelow LO3.out.size (fun k hh=>by simp at hh;omega)))
 clear TW LO3
 have Iw:=hide OH
 clear OH Jg J5 Vl
 clear Vm
 go_simp
 go_wp2_with fail
 refine(WA.out _).mono ?_
 rintro e w' ⟨rfl,rfl⟩
 go_wp2_with fail
 refine(WB.out _).mono ?_
 rintro e w' ⟨rfl,rfl⟩
 go_upto_region 3 with fail
 have hx1:Box (D9.alloc (.cells #[.int .i64 (a:Nat),.int .i64 (b:Nat)] 3)) D9.heap.size 3 #[.int .i64 (a:Nat),.int .i64 (b:Nat)] :=Box.new D9 3 #[.int .i64 (a:Nat),.int .i64 (b:Nat)]
 have hxb:Below D9.heap.size D9 (D9.alloc (.cells #[.int .i64 (a:Nat),.int .i64 (b:Nat)] 3)):=(Below.refl D9.heap.size D9).alloc (Nat.le_refl _) _
 have HX1:=hide hx1
 have HXB:=hide hxb
 clear hx1 hxb
 go_wp2_with (first | (refine AX Iw.out rfl _ rfl rfl ?_))
 refine(DO.out _ _ _ (LO4.out.trans (HXB.out.mono LO4.out.size)) HX1.out ⟨_,rfl,OO.out.low HXB.out⟩).mono ?_
 have hxb:=HXB.out
 clear HX1 HXB
 rintro e wb3 ⟨v3,rfl,⟨x3,rfl,hg3⟩,hb3⟩
 have hbb:=hxb.trans (hb3.mono hxb.size)
 clear hb3 hxb
 have Iy:=hide (Iw.out.below hbb Iw.out.lt)
 have Ta:=hide (OO.out.low hbb)
 have LO5:=hide (LO4.out.trans (hbb.mono LO4.out.size))
 clear Iw OO LO4 hbb
 obtain⟨A3,c3,rfl⟩:=Af hg3
 have Tc:=hide hg3
 clear hg3
 go_upto_region 4 with (first | (refine BG rfl rfl ?_;intro gt uq uw JD fq Iz fu) | (refine AQ JD fq rfl _ _ rfl rfl rfl rfl ?_;intro ZW TP I4 gD))
 have IZ:gs≠gt:=by have:=Iy.out.lt;omega
 have gF:w.heap.size<=gt:=by have:=LO5.out.size;omega
 have OI:=hide (Iy.out.below Iz Iy.out.lt)
 have Te:=hide (Ta.out.low Iz)
 have Td:=hide (Tc.out.low Iz)
 have LO6:=hide (LO5.out.trans (Iz.mono LO5.out.size))
 clear Iy Ta Tc LO5 Iz
 have Gp:=hide (OI.out.kept I4 (by simp;first | exact IZ | exact Ne.symm TQ))
 have Tg:=hide (Te.out.kept JD (by decide) I4)
 have Tf:=hide (Td.out.kept JD (by decide) I4)
 have LO7:=hide (LO6.out.trans (I4.toBelow LO6.out.size (fun k hh=>by simp at hh;omega)))
 clear OI Te Td LO6
 have LP:=hide TP
 clear TP I4 JD fu
 clear gD
 go_simp
 have E9:=(show _=some (.int .i64 (R:Nat):Value) from(Gp.out.c0).trans (by first | (rw [ERR.out];done) | (rw [ERR.out];rfl)))
 go_cut [13,14] from 32 to 38 (fun u v wx=>u=.int .i64 (lo:Nat)/\v=.int .i64 ((R:Int)-1)/\Below ZW.heap.size ZW wx)
 case first=>
  by_cases h1:1<a
  ·have e:=LOF.out.2 (by omega)
   have E:=hide (show(a:Int)-1=(lo:Nat) by omega)
   clear e
   go_region
   all_goals
    go_wp2_with fail
    go_meet
    exact⟨congrArg (Value.int .i64) E.out,rfl,by first | exact Below.refl _ _ | exact Below.drew (Below.refl _ _)⟩
  ·obtain rfl:lo=0:=LOF.out.1 (by omega)
   obtain rfl | rfl:a=0\/a=1:=by omega
   all_goals
    go_region
    all_goals
     go_wp2_with fail
     go_meet
     exact⟨rfl,rfl,by first | exact Below.refl _ _ | exact Below.drew (Below.refl _ _)⟩
 case rest=>
  clear E9
  obtain⟨rfl,rfl,hb4⟩:=hcut
  rename World=>w4
  have Ia:=hide (Gp.out.below hb4 Gp.out.lt)
  have Es:=hide (LP.out.below hb4 LP.out.lt)
  have Qw:=hide (Tg.out.low hb4)
  have Qv:=hide (Tf.out.low hb4)
  have LO8:=hide (LO7.out.trans (hb4.mono LO7.out.size))
  clear Gp LP Tg Tf LO7 hb4
  have E9:=(show _=some (.int .i64 (R:Nat):Value) from(Ia.out.c0).trans (by first | (rw [ERR.out];done) | (rw [ERR.out];rfl)))
  go_upto_if 40 with fail
  go_cut [14] from 40 to 46 (fun u wx=>u=.int .i64 (hi:Nat)/\wx=w4)
  case first=>
   by_cases h1:0<b
   ·rcases(show b<R\/R<b\/R=b by omega) with h2 | h2 | h2
    ·have E:=hide (show(b:Int)-1=(hi:Nat) by have:=HIF.out.2.1 (by omega) (by omega);omega)
     go_wp2_with fail
     go_meet
     exact⟨congrArg (Value.int .i64) E.out,rfl⟩
    ·have E:=hide (show(R:Int)-1=(hi:Nat) by have:=HIF.out.2.2.1 (by omega);omega)
     go_wp2_with fail
     go_meet
     exact⟨congrArg (Value.int .i64) E.out,rfl⟩
    ·subst h2
     have E:=hide (show(R:Int)-1=(hi:Nat) by have:=HIF.out.2.2.1 (by omega);omega)
     go_wp2_with fail
     go_meet
     exact⟨congrArg (Value.int .i64) E.out,rfl⟩
   ·have E:=hide (show(R:Int)-1=(hi:Nat) by have:=HIF.out.1 (by omega);omega)
    go_wp2_with fail
    go_meet
    exact⟨congrArg (Value.int .i64) E.out,rfl⟩
  case rest=>
   clear E9
   obtain⟨rfl,hw⟩:=hcut
   subst hw
   rename World=>w4
   go_upto_if 49 with fail
   go_cut [] from 49 to 88 (fun wx=>Below w4.heap.size w4 wx)
   case first=>
    by_cases hlh:lo<hi
    ·obtain⟨t1,t2,t3,t4,t5⟩:=TY.out hlh
     have T1:=hide t1
     have T2:=hide t2
     have T3:=hide t3
     obtain⟨og,hog⟩: ∃o,T.org=o:=⟨_,rfl⟩
     have TO:=hide hog
     rw [hog] at t4 t5
     clear t1 t2 t3 hog
     cases og with
     | true=>
      have T4:=hide (t4 rfl)
      clear t4 t5
      have iA:=(show _=some (.int .i64 (lo:Nat):Value) from(Es.out.c6).trans (by first | (rw [T1.out];done) | (rw [T1.out];rfl)))
      have iB:=(show _=some (.int .i64 (hi:Nat):Value) from(Es.out.c7).trans (by first | (rw [T2.out];done) | (rw [T2.out];rfl)))
      have Vv:=(show _=some (.int .i64 (0:Nat):Value) from(Es.out.c4).trans (by first | (rw [T3.out];done) | (rw [T3.out];rfl)))
      have mg:=(show _=some (.bool true:Value) from(Es.out.c16).trans (by first | (rw [TO.out];done) | (rw [TO.out];rfl)))
      have L8:=(show _=some (.int .i64 (lo:Nat):Value) from(Es.out.c3).trans (by first | (rw [T4.out];done) | (rw [T4.out];rfl)))
      have b1:((lo:Int)!=(lo:Int))=false:=by simp
      have b2:((hi:Int)!=(hi:Int))=false:=by simp
      go_wp2_with fail
      go_meet
      exact Below.refl _ _
     | false=>
      have T4:=hide (t5 rfl)
      clear t4 t5
      have iA:=(show _=some (.int .i64 (lo:Nat):Value) from(Es.out.c6).trans (by first | (rw [T1.out];done) | (rw [T1.out];rfl)))
      have iB:=(show _=some (.int .i64 (hi:Nat):Value) from(Es.out.c7).trans (by first | (rw [T2.out];done) | (rw [T2.out];rfl)))
      have Vv:=(show _=some (.int .i64 (0:Nat):Value) from(Es.out.c4).trans (by first | (rw [T3.out];done) | (rw [T3.out];rfl)))
      have mg:=(show _=some (.bool false:Value) from(Es.out.c16).trans (by first | (rw [TO.out];done) | (rw [TO.out];rfl)))
      have L8:=(show _=some (.int .i64 (0:Nat):Value) from(Es.out.c3).trans (by first | (rw [T4.out];done) | (rw [T4.out];rfl)))
      have b1:((lo:Int)!=(lo:Int))=false:=by simp
      have b2:((hi:Int)!=(hi:Int))=false:=by simp
      go_wp2_with fail
      go_meet
      exact Below.refl _ _
    ·obtain rfl:=TN.out hlh
     go_wp2_with (first | (refine AX Es.out rfl _ rfl rfl ?_) | (refine AX Ia.out rfl _ rfl rfl ?_))
     refine(N8 S _ _ _ _ _ HNS.out Qv.out Qw.out).mono ?_
     rintro e wq ⟨rfl,hq⟩
     go_wp2_with fail
     go_meet
     exact hq
   case rest=>
    have hb7:=hcut
    rename World=>w7
    clear hcut TY TN LOF HIF
    have Gq:=hide (Ia.out.below hb7 Ia.out.lt)
    have Gf:=hide (Es.out.below hb7 Es.out.lt)
    have OQ:=hide (Qw.out.low hb7)
    have OP:=hide (Qv.out.low hb7)
    have LO9:=hide (LO8.out.trans (hb7.mono LO8.out.size))
    clear Ia Es Qw Qv LO8 hb7
    go_wp2_with fail
    refine(WN.out _).mono ?_
    rintro e w' ⟨rfl,rfl⟩
    have mh:Box (w7.alloc (.cells #[.int .u8 76,.int .u8 77,.int .u8 83,.int .u8 84] 5)) w7.heap.size 5 #[.int .u8 76,.int .u8 77,.int .u8 83,.int .u8 84] :=Box.new w7 5 #[.int .u8 76,.int .u8 77,.int .u8 83,.int .u8 84]
    have hb13:Below w7.heap.size w7 (w7.alloc (.cells #[.int .u8 76,.int .u8 77,.int .u8 83,.int .u8 84] 5)):=(Below.refl w7.heap.size w7).alloc (Nat.le_refl _) _
    go_wp2_with fail
    generalize (w7.alloc (.cells #[.int .u8 76,.int .u8 77,.int .u8 83,.int .u8 84] 5))=w13 at mh hb13⊢
    obtain⟨gB,hgB⟩: ∃g,w7.heap.size=g:=⟨_,rfl⟩
    rw [hgB] at mh
    simp only [hgB]
    clear hgB
    have Ib:=hide (Gq.out.below hb13 Gq.out.lt)
    have L6:=hide (Gf.out.below hb13 Gf.out.lt)
    have OT:=hide (OQ.out.low hb13)
    have Om:=hide (OP.out.low hb13)
    have I5:=hide (LO9.out.trans (hb13.mono LO9.out.size))
    clear Gq Gf OQ OP LO9 hb13
    have HSB:=hide mh
    clear mh
    go_loopw [93] (fun i wr=> ∃k:Nat,k<=4/\i=.int .i64 (k:Nat)/\Hid (Below w13.heap.size w13 wr)) (fun i _=>4-(intOf i).toNat)
    case atStart=>exact⟨0,by omega,rfl,hide (Below.refl _ _)⟩
    case round=>
     obtain⟨k,hk4,rfl,HB7⟩:=hrel
     have hb7:=HB7.out
     have Kg:=hide (Ib.out.below hb7 Ib.out.lt)
     have Ie:=hide (L6.out.below hb7 L6.out.lt)
     have KC:=hide (OT.out.low hb7)
     have L9:=hide (Om.out.low hb7)
     have Ic:=hide (I5.out.trans (hb7.mono I5.out.size))
     clear Ib L6 OT Om I5 hb7
     have HSC:=hide (HSB.out.below HB7.out HSB.out.lt)
     by_cases hk:k<4
     ·obtain⟨fn,hfn⟩: ∃f:Int,([76,77,83,84] :List Int).getD k 0=f:=⟨_,rfl⟩
      have hff:fn=76\/fn=77\/fn=83\/fn=84:=by
       subst hfn
       obtain rfl | rfl | rfl | rfl:k=0\/k=1\/k=2\/k=3:=by omega
       all_goals simp
      obtain⟨U,hU⟩: ∃U,SN.doS T 4 0 0 0 fn [(m:Int)] =U:=⟨_,rfl⟩
      obtain⟨u1,u2,u3,u4,u5,u6⟩:=SN.Vw RT.out hff (m:Int) U hU
      have RU:=hide (hU▸SN.IV RT.out 4 0 0 0 fn [(m:Int)] :SN.Ad U)
      have DU:=hide (fun w' v' g hw hb h=>hU▸DM.out fn w' v' g hw hb h)
      have U1:=hide u1
      have U2:=hide u2
      have U3:=hide u3
      have U4:=hide u4
      have U5:=hide u5
      have U6:=hide u6
      have EF:=hide hfn
      clear hfn hff hU u1 u2 u3 u4 u5 u6
      go_upto_region 15 with fail
      go_cut [17] from 95 to 96 (fun u wx=>u=.int .u8 fn/\wx=wr)
      case first=>
       obtain rfl | rfl | rfl | rfl:k=0\/k=1\/k=2\/k=3:=by omega
       ·have hc2:wr.cell? ⟨gB,0,none⟩=some (.int .u8 76):=HSC.out.cell 0
        obtain rfl:(76:Int)=fn:=EF.out
        go_wp2_with fail
        go_meet
        exact⟨rfl,rfl⟩
       ·have hc2:wr.cell? ⟨gB,1,none⟩=some (.int .u8 77):=HSC.out.cell 1
        obtain rfl:(77:Int)=fn:=EF.out
        go_wp2_with fail
        go_meet
        exact⟨rfl,rfl⟩
       ·have hc2:wr.cell? ⟨gB,2,none⟩=some (.int .u8 83):=HSC.out.cell 2
        obtain rfl:(83:Int)=fn:=EF.out
        go_wp2_with fail
        go_meet
        exact⟨rfl,rfl⟩
       ·have hc2:wr.cell? ⟨gB,3,none⟩=some (.int .u8 84):=HSC.out.cell 3
        obtain rfl:(84:Int)=fn:=EF.out
        go_wp2_with fail
        go_meet
        exact⟨rfl,rfl⟩
      case rest=>
       obtain⟨rfl,hw⟩:=hcut
       subst hw
       rename World=>wr
       have LX0:=hide (Below.refl wr.heap.size wr)
       have hx1:Box (wr.alloc (.cells #[.int .i64 (m:Nat)] 3)) wr.heap.size 3 #[.int .i64 (m:Nat)] :=Box.new wr 3 #[.int .i64 (m:Nat)]
       have hxb:Below wr.heap.size wr (wr.alloc (.cells #[.int .i64 (m:Nat)] 3)):=(Below.refl wr.heap.size wr).alloc (Nat.le_refl _) _
       have HX1:=hide hx1
       have HXB:=hide hxb
       clear hx1 hxb
       go_wp2_with (first | (refine AX Ie.out rfl _ rfl rfl ?_))
       refine(DU.out _ _ _ (Ic.out.trans (HXB.out.mono Ic.out.size)) HX1.out ⟨_,rfl,L9.out.low HXB.out⟩).mono ?_
       have hxb:=HXB.out
       clear HX1 HXB
       rintro e wb5 ⟨v5,rfl,⟨x5,rfl,hg5⟩,hb5⟩
       have hbb:=hxb.trans (hb5.mono hxb.size)
       clear hb5 hxb
       have LX1:=hide (LX0.out.trans (hbb.mono LX0.out.size))
       clear LX0
       have LU:=hide (Kg.out.below hbb Kg.out.lt)
       have LQ:=hide (Ie.out.below hbb Ie.out.lt)
       have LW:=hide (KC.out.low hbb)
       have Qx:=hide (L9.out.low hbb)
       have Kh:=hide (Ic.out.trans (hbb.mono Ic.out.size))
       clear Kg Ie KC L9 Ic hbb
       obtain⟨A5,c5,rfl⟩:=Af hg5
       have gK:=hide hg5
       clear hg5
       go_upto_region 17 with (first | (refine BG rfl rfl ?_;intro gu wagu csgu OU qz Jh q9) | (refine AQ OU qz rfl _ _ rfl rfl rfl rfl ?_;intro Zf gL Ji rA))
       have lx_gu:wr.heap.size<=gu:=by have:=LX1.out.size;omega
       have OV:gs≠gu:=by have:=LU.out.lt;omega
       have OW:gt≠gu:=by have:=LQ.out.lt;omega
       have vR:w.heap.size<=gu:=by have:=Kh.out.size;omega
       have LX2:=hide (LX1.out.trans (Jh.mono LX1.out.size))
       clear LX1
       have Ma:=hide (LU.out.below Jh LU.out.lt)
       have Vr:=hide (LQ.out.below Jh LQ.out.lt)
       have OX:=hide (LW.out.low Jh)
       have Zh:=hide (Qx.out.low Jh)
       have gM:=hide (gK.out.low Jh)
       have OY:=hide (Kh.out.trans (Jh.mono Kh.out.size))
       clear LU LQ LW Qx gK Kh Jh
       have LX3:=hide (LX2.out.trans (Ji.toBelow LX2.out.size (fun k hh=>by simp at hh;omega)))
       clear LX2
       have Mc:=hide (Ma.out.kept Ji (by simp;first | exact OV | exact Ne.symm gN))
       have Ti:=hide (Vr.out.kept Ji (by simp;first | exact OW | exact Ne.symm gT))
       have Tk:=hide (OX.out.kept OU (by decide) Ji)
       have Tj:=hide (Zh.out.kept OU (by decide) Ji)
       have gU:=hide (gM.out.kept OU (by decide) Ji)
       have Tn:=hide (OY.out.trans (Ji.toBelow OY.out.size (fun k hh=>by simp at hh;omega)))
       clear Ma Vr OX Zh gM OY
       have Vs:=hide gL
       clear gL Ji OU q9
       clear rA
       go_simp
       go_wp2_with fail
       go_loopw [19] (fun i wx=> ∃y:Nat,y<=T.g.rows/\i=.int .i64 (y:Nat)/\Hid (Below Zf.heap.size Zf wx)) (fun i _=>T.g.rows-(intOf i).toNat)
       case atStart=>exact⟨0,Nat.zero_le _,rfl,hide (Below.refl _ _)⟩
       case round=>
        obtain⟨y,hyR,rfl,HB8⟩:=hrel
        rename World=>wx
        have hb8:=HB8.out
        have gX:=hide (Mc.out.below hb8 Mc.out.lt)
        have LV:=hide (Ti.out.below hb8 Ti.out.lt)
        have Oo:=hide (Vs.out.below hb8 Vs.out.lt)
        have gY:=hide (Tk.out.low hb8)
        have Tm:=hide (Tj.out.low hb8)
        have gW:=hide (gU.out.low hb8)
        have mV:=hide (Tn.out.trans (hb8.mono Tn.out.size))
        clear Mc Ti Vs Tk Tj gU Tn hb8
        have Lx:=(show _=some (.int .i64 (T.g.rows:Nat):Value) from LV.out.c0)
        have hTR:=RT.out.g.2.1
        by_cases hy:y<T.g.rows
        ·go_upto_region 20 with fail
         clear Lx
         go_cut [130] from 110 to 130 (fun u wy=>u=.bool false/\Below wx.heap.size wx wy)
         case first=>
          rcases(show y<T.top\/(T.top<=y/\T.bot<y)\/(T.top<=y/\y<=T.bot) by omega) with q | ⟨q,q'⟩ | ⟨q,q'⟩
          ·skip
           have htx:PG.text (U.g.f y) U.g.AB=PG.text (T.g.f y) T.g.AB:=by rw [U6.out y (by omega),U2.out]
           have HTX:=hide htx
           clear htx
           have UT:=hide (fun w' (h:IsG w' U.g (gv U.g.rows U.g.AB (.slice A5 (U.g.rows*U.g.AB) c5)))=>(show Calls Tryz.prog 16 #[gv U.g.rows U.g.AB (.slice A5 (U.g.rows*U.g.AB) c5),.int .i64 (y:Nat)] w' (fun e w''=>e=.returned (.string (strOfNums (PG.text (T.g.f y) T.g.AB)))/\Below w'.heap.size w' w'') from by have e:=KO RU.out.g h y (by rw [U1.out];exact hy);rw [HTX.out] at e;exact e))
           refine DI (n:=156) [] (fun _=> #[]) [(0,0,0,0,0),(0,0,0,0,0),(0,0,0,0,0),(0,0,0,0,0),(0,0,0,0,0),(0,0,0,0,0),(0,0,0,0,0),(0,0,0,0,0),(0,0,0,0,0),(0,0,0,0,0),(0,0,0,0,0),(0,0,0,0,0),(0,0,0,0,0),(0,0,0,0,0),(0,0,0,0,0),(0,0,0,0,0),(0,0,0,0,0),(0,0,0,0,0),(0,0,0,0,0),(0,0,0,0,0),(0,0,0,0,0)] (fun j=> [(.int .i64 (y:Nat)),(.pointer (some ⟨gt,6,none⟩)),(.int .i64 (T.top:Nat)),(.bool true),(.bool true),undef,undef,undef,undef,(.bool true),(.bool true),(.pointer (some ⟨gu,0,none⟩)),(.agg #[.int .i64 (U.g.rows:Nat),.int .i64 (U.g.AB:Nat),.slice A5 (U.g.rows*U.g.AB) c5]),(.int .i64 (y:Nat)),(.string (strOfNums (PG.text (T.g.f y) T.g.AB))),(.pointer (some ⟨gt,0,none⟩)),(.agg #[.int .i64 (T.g.rows:Nat),.int .i64 (T.g.AB:Nat),.slice A3 (T.g.rows*T.g.AB) c3]),(.int .i64 (y:Nat)),(.string (strOfNums (PG.text (T.g.f y) T.g.AB))),(.bool false),(.bool false)].getD j undef) [] (fun _=>0) (by kernel_rfl) (by kernel_rfl) (by kernel_rfl) rfl (by kernel_rfl) (Cy rfl) (fun i j h=>by revert h;exact Cy (p:=fun _=>_) rfl i) (Aj.nil _) (fun hGS=>Kr ⟨?_,?_,?_,?_,?_,?_,?_,?_,?_,?_,?_,?_,?_,?_,?_,?_,?_,?_,?_,?_,?_⟩) ?_
           ·intro L a w' hL hsame hsz hJ AJ hcl
            refine Ao hJ hGS hcl hL 19 (.int .i64 (y:Nat)) (.int .i64 (y:Nat)) (Ab hsame (by kernel_rfl)) _ rfl rfl rfl rfl rfl fun ρ _ e0=>?_
            clear hJ hsame AJ hcl hsz
            go_simp
           ·intro L a w' hL hsame hsz hJ AJ hcl
            refine Ao hJ hGS hcl hL 12 (.pointer (some ⟨gt,0,none⟩)) (.pointer (some ⟨gt,6,none⟩)) (Ab hsame (by kernel_rfl)) _ rfl rfl rfl rfl rfl fun ρ _ e0=>?_
            clear hJ hsame AJ hcl hsz
            go_simp
           ·intro L a w' hL hsame hsz hJ AJ hcl
            have q0:w'.cell? ⟨gt,6,none⟩=some (.int .i64 (T.top:Nat)):=(hJ.Ah ((show Box _ gt 34 (scA (.slice A3 (T.g.rows*T.g.AB) c3) T) from LV.out)) (by simp)).cell 6
            refine Ao hJ hGS hcl hL 111 (.pointer (some ⟨gt,6,none⟩)) (.int .i64 (T.top:Nat)) (gslot hJ AJ 1 (by kernel_rfl) (by kernel_rfl) (by decide) rfl rfl) _ rfl rfl rfl rfl rfl fun ρ _ e0=>?_
            clear hJ hsame AJ hcl hsz
            go_simp
           ·intro L a w' hL hsame hsz hJ AJ hcl
            refine SL hJ hGS hcl hL 110 112 (.int .i64 (y:Nat)) (.int .i64 (T.top:Nat)) (.bool true) (gslot hJ AJ 0 (by kernel_rfl) (by kernel_rfl) (by decide) rfl rfl) (gslot hJ AJ 2 (by kernel_rfl) (by kernel_rfl) (by decide) rfl rfl) _ rfl rfl rfl rfl rfl fun ρ _ e0 e1=>?_
            clear hJ hsame AJ hcl hsz
            go_simp
           ·intro L a w' hL hsame hsz hJ AJ hcl
            refine Ao hJ hGS hcl hL 113 (.bool true) (.bool true) (gslot hJ AJ 3 (by kernel_rfl) (by kernel_rfl) (by decide) rfl rfl) _ rfl rfl rfl rfl rfl fun ρ _ e0=>?_
            clear hJ hsame AJ hcl hsz
            go_simp
           ·intro L a w' hL hsame hsz hJ AJ hcl
            have gd:valOf _ 4 a=.bool true:=hJ.valOf (by decide) (AZ AJ 4 (by kernel_rfl)) rfl rfl
            exact GStep.pass _ rfl (BJ (g:=4) (b:=false) (c:=true) rfl gd (by decide)) (hJ.val hGS hcl hL rfl (Below.refl _ _) _ rfl)
           ·intro L a w' hL hsame hsz hJ AJ hcl
            have gd:valOf _ 4 a=.bool true:=hJ.valOf (by decide) (AZ AJ 4 (by kernel_rfl)) rfl rfl
            exact GStep.pass _ rfl (BJ (g:=4) (b:=false) (c:=true) rfl gd (by decide)) (hJ.val hGS hcl hL rfl (Below.refl _ _) _ rfl)
           ·intro L a w' hL hsame hsz hJ AJ hcl
            have gd:valOf _ 4 a=.bool true:=hJ.valOf (by decide) (AZ AJ 4 (by kernel_rfl)) rfl rfl
            exact GStep.pass _ rfl (BJ (g:=4) (b:=false) (c:=true) rfl gd (by decide)) (hJ.val hGS hcl hL rfl (Below.refl _ _) _ rfl)
           ·intro L a w' hL hsame hsz hJ AJ hcl
            have gd:valOf _ 4 a=.bool true:=hJ.valOf (by decide) (AZ AJ 4 (by kernel_rfl)) rfl rfl
            exact GStep.pass _ rfl (BJ (g:=4) (b:=false) (c:=true) rfl gd (by decide)) (hJ.val hGS hcl hL rfl (Below.refl _ _) _ rfl)
           ·intro L a w' hL hsame hsz hJ AJ hcl
            have hb:=hJ.kept.toBelow (Nat.le_refl _) (by simp)
            have e0:a.eval (.tmp 114)=(.bool true):=AU (j:=4) (by kernel_rfl) (hJ.valOf (by decide) (AZ AJ 4 (by kernel_rfl)) rfl rfl)
            have e2:a.eval (.tmp 118)=undef:=AU (j:=8) (by kernel_rfl) (hJ.valOf (by decide) (AZ AJ 8 (by kernel_rfl)) rfl rfl)
            refine Step.val _ rfl rfl (AY rfl) (.bool true) w' (fun ρ hρ=>?_) (hJ.val hGS hcl hL rfl (Below.refl _ _) _ rfl)
            rw [hρ] at e0 e2
            have ec0:ρ (.const (.bool true))=(.bool true):=(hρ _).symm
            clear hJ hsame AJ hcl hρ hsz hb
            go_simp
           ·intro L a w' hL hsame hsz hJ AJ hcl
            refine Ao hJ hGS hcl hL 119 (.bool true) (.bool true) (gslot hJ AJ 9 (by kernel_rfl) (by kernel_rfl) (by decide) rfl rfl) _ rfl rfl rfl rfl rfl fun ρ _ e0=>?_
            clear hJ hsame AJ hcl hsz
            go_simp
           ·intro L a w' hL hsame hsz hJ AJ hcl
            have gd:valOf _ 10 a=.bool true:=hJ.valOf (by decide) (AZ AJ 10 (by kernel_rfl)) rfl rfl
            have hb:=hJ.kept.toBelow (Nat.le_refl _) (by simp)
            have e0:a.eval (.tmp 18)=(.pointer (some ⟨gu,0,none⟩)):=Ab hsame (by kernel_rfl)
            refine Step.val _ rfl rfl (Ak (g:=10) (b:=true) rfl gd) (.pointer (some ⟨gu,0,none⟩)) w' (fun ρ hρ=>?_) (hJ.val hGS hcl hL rfl (Below.refl _ _) _ rfl)
            rw [hρ] at e0
            clear hJ hsame AJ hcl hρ hsz hb gd
            go_simp
           ·intro L a w' hL hsame hsz hJ AJ hcl
            have gd:valOf _ 10 a=.bool true:=hJ.valOf (by decide) (AZ AJ 10 (by kernel_rfl)) rfl rfl
            have hb:=hJ.kept.toBelow (Nat.le_refl _) (by simp)
            have e0:a.eval (.tmp 121)=(.pointer (some ⟨gu,0,none⟩)):=AU (j:=11) (by kernel_rfl) (hJ.valOf (by decide) (AZ AJ 11 (by kernel_rfl)) rfl rfl)
            have hx:=hJ.Ah ((show Box _ gu 34 (scA (.slice A5 (U.g.rows*U.g.AB) c5) U) from Oo.out)) (by simp)
            have q0:w'.cell? ⟨gu,0,none⟩=some (.int .i64 (U.g.rows:Nat)):=hx.cell 0
            have q1:w'.cell? ⟨gu,1,none⟩=some (.int .i64 (U.g.AB:Nat)):=hx.cell 1
            have q2:w'.cell? ⟨gu,2,none⟩=some (.slice A5 (U.g.rows*U.g.AB) c5):=hx.cell 2
            refine Step.val _ rfl rfl (Ak (g:=10) (b:=true) rfl gd) (.agg #[.int .i64 (U.g.rows:Nat),.int .i64 (U.g.AB:Nat),.slice A5 (U.g.rows*U.g.AB) c5]) w' (fun ρ hρ=>?_) (hJ.val hGS hcl hL rfl (Below.refl _ _) _ rfl)
            clear hx
            rw [hρ] at e0
            clear hJ hsame AJ hcl hρ hsz hb gd
            go_simp
           ·intro L a w' hL hsame hsz hJ AJ hcl
            have gd:valOf _ 10 a=.bool true:=hJ.valOf (by decide) (AZ AJ 10 (by kernel_rfl)) rfl rfl
            have hb:=hJ.kept.toBelow (Nat.le_refl _) (by simp)
            have e0:a.eval (.tmp 19)=(.int .i64 (y:Nat)):=Ab hsame (by kernel_rfl)
            refine Step.val _ rfl rfl (Ak (g:=10) (b:=true) rfl gd) (.int .i64 (y:Nat)) w' (fun ρ hρ=>?_) (hJ.val hGS hcl hL rfl (Below.refl _ _) _ rfl)
            rw [hρ] at e0
            clear hJ hsame AJ hcl hρ hsz hb gd
            go_simp
           ·intro L a w' hL hsame hsz hJ AJ hcl
            have gd:valOf _ 10 a=.bool true:=hJ.valOf (by decide) (AZ AJ 10 (by kernel_rfl)) rfl rfl
            have hb:=hJ.kept.toBelow (Nat.le_refl _) (by simp)
            have e0:a.eval (.tmp 122)=(.agg #[.int .i64 (U.g.rows:Nat),.int .i64 (U.g.AB:Nat),.slice A5 (U.g.rows*U.g.AB) c5]):=AU (j:=12) (by kernel_rfl) (hJ.valOf (by decide) (AZ AJ 12 (by kernel_rfl)) rfl rfl)
            have e1:a.eval (.tmp 123)=(.int .i64 (y:Nat)):=AU (j:=13) (by kernel_rfl) (hJ.valOf (by decide) (AZ AJ 13 (by kernel_rfl)) rfl rfl)
            refine Step.call _ rfl rfl (Ak (g:=10) (b:=true) rfl gd) 16 #[.agg #[.int .i64 (U.g.rows:Nat),.int .i64 (U.g.AB:Nat),.slice A5 (U.g.rows*U.g.AB) c5],.int .i64 (y:Nat)] (fun ρ hρ=>?_) ?_
            ·skip
             rw [hρ] at e0 e1
             have ef:ρ (.func 16)=.func (.func 16) #[] #[] :=(hρ _).symm
             clear hJ hsame AJ hcl hρ hsz hb gd
             go_simp
            ·refine(UT.out _ (gW.out.low hb)).mono ?_
             rintro e w2 ⟨rfl,bb⟩
             exact⟨_,rfl,hJ.val hGS hcl hL rfl bb _ rfl⟩
           ·intro L a w' hL hsame hsz hJ AJ hcl
            have gd:valOf _ 10 a=.bool true:=hJ.valOf (by decide) (AZ AJ 10 (by kernel_rfl)) rfl rfl
            have hb:=hJ.kept.toBelow (Nat.le_refl _) (by simp)
            have e0:a.eval (.tmp 12)=(.pointer (some ⟨gt,0,none⟩)):=Ab hsame (by kernel_rfl)
            refine Step.val _ rfl rfl (Ak (g:=10) (b:=true) rfl gd) (.pointer (some ⟨gt,0,none⟩)) w' (fun ρ hρ=>?_) (hJ.val hGS hcl hL rfl (Below.refl _ _) _ rfl)
            rw [hρ] at e0
            clear hJ hsame AJ hcl hρ hsz hb gd
            go_simp
           ·intro L a w' hL hsame hsz hJ AJ hcl
            have gd:valOf _ 10 a=.bool true:=hJ.valOf (by decide) (AZ AJ 10 (by kernel_rfl)) rfl rfl
            have hb:=hJ.kept.toBelow (Nat.le_refl _) (by simp)
            have e0:a.eval (.tmp 125)=(.pointer (some ⟨gt,0,none⟩)):=AU (j:=15) (by kernel_rfl) (hJ.valOf (by decide) (AZ AJ 15 (by kernel_rfl)) rfl rfl)
            have hx:=hJ.Ah ((show Box _ gt 34 (scA (.slice A3 (T.g.rows*T.g.AB) c3) T) from LV.out)) (by simp)
            have q0:w'.cell? ⟨gt,0,none⟩=some (.int .i64 (T.g.rows:Nat)):=hx.cell 0
            have q1:w'.cell? ⟨gt,1,none⟩=some (.int .i64 (T.g.AB:Nat)):=hx.cell 1
            have q2:w'.cell? ⟨gt,2,none⟩=some (.slice A3 (T.g.rows*T.g.AB) c3):=hx.cell 2
            refine Step.val _ rfl rfl (Ak (g:=10) (b:=true) rfl gd) (.agg #[.int .i64 (T.g.rows:Nat),.int .i64 (T.g.AB:Nat),.slice A3 (T.g.rows*T.g.AB) c3]) w' (fun ρ hρ=>?_) (hJ.val hGS hcl hL rfl (Below.refl _ _) _ rfl)
            clear hx
            rw [hρ] at e0
            clear hJ hsame AJ hcl hρ hsz hb gd
            go_simp
           ·intro L a w' hL hsame hsz hJ AJ hcl
            have gd:valOf _ 10 a=.bool true:=hJ.valOf (by decide) (AZ AJ 10 (by kernel_rfl)) rfl rfl
            have hb:=hJ.kept.toBelow (Nat.le_refl _) (by simp)
            have e0:a.eval (.tmp 19)=(.int .i64 (y:Nat)):=Ab hsame (by kernel_rfl)
            refine Step.val _ rfl rfl (Ak (g:=10) (b:=true) rfl gd) (.int .i64 (y:Nat)) w' (fun ρ hρ=>?_) (hJ.val hGS hcl hL rfl (Below.refl _ _) _ rfl)
            rw [hρ] at e0
            clear hJ hsame AJ hcl hρ hsz hb gd
            go_simp
           ·intro L a w' hL hsame hsz hJ AJ hcl
            have gd:valOf _ 10 a=.bool true:=hJ.valOf (by decide) (AZ AJ 10 (by kernel_rfl)) rfl rfl
            have hb:=hJ.kept.toBelow (Nat.le_refl _) (by simp)
            have e0:a.eval (.tmp 126)=(.agg #[.int .i64 (T.g.rows:Nat),.int .i64 (T.g.AB:Nat),.slice A3 (T.g.rows*T.g.AB) c3]):=AU (j:=16) (by kernel_rfl) (hJ.valOf (by decide) (AZ AJ 16 (by kernel_rfl)) rfl rfl)
            have e1:a.eval (.tmp 127)=(.int .i64 (y:Nat)):=AU (j:=17) (by kernel_rfl) (hJ.valOf (by decide) (AZ AJ 17 (by kernel_rfl)) rfl rfl)
            refine Step.call _ rfl rfl (Ak (g:=10) (b:=true) rfl gd) 16 #[.agg #[.int .i64 (T.g.rows:Nat),.int .i64 (T.g.AB:Nat),.slice A3 (T.g.rows*T.g.AB) c3],.int .i64 (y:Nat)] (fun ρ hρ=>?_) ?_
            ·skip
             rw [hρ] at e0 e1
             have ef:ρ (.func 16)=.func (.func 16) #[] #[] :=(hρ _).symm
             clear hJ hsame AJ hcl hρ hsz hb gd
             go_simp
            ·refine(KO RT.out.g (Tm.out.low hb) y hy).mono ?_
             rintro e w2 ⟨rfl,bb⟩
             exact⟨_,rfl,hJ.val hGS hcl hL rfl bb _ rfl⟩
           ·intro L a w' hL hsame hsz hJ AJ hcl
            have gd:valOf _ 10 a=.bool true:=hJ.valOf (by decide) (AZ AJ 10 (by kernel_rfl)) rfl rfl
            have hb:=hJ.kept.toBelow (Nat.le_refl _) (by simp)
            have e0:a.eval (.tmp 124)=(.string (strOfNums (PG.text (T.g.f y) T.g.AB))):=AU (j:=14) (by kernel_rfl) (hJ.valOf (by decide) (AZ AJ 14 (by kernel_rfl)) rfl rfl)
            have e1:a.eval (.tmp 128)=(.string (strOfNums (PG.text (T.g.f y) T.g.AB))):=AU (j:=18) (by kernel_rfl) (hJ.valOf (by decide) (AZ AJ 18 (by kernel_rfl)) rfl rfl)
            refine Step.val _ rfl rfl (Ak (g:=10) (b:=true) rfl gd) (.bool false) w' (fun ρ hρ=>?_) (hJ.val hGS hcl hL rfl (Below.refl _ _) _ rfl)
            rw [hρ] at e0 e1
            clear hJ hsame AJ hcl hρ hsz hb gd
            go_simp
           ·intro L a w' hL hsame hsz hJ AJ hcl
            refine SL hJ hGS hcl hL 120 129 (.bool true) (.bool false) (.bool false) (gslot hJ AJ 10 (by kernel_rfl) (by kernel_rfl) (by decide) rfl rfl) (gslot hJ AJ 19 (by kernel_rfl) (by kernel_rfl) (by decide) rfl rfl) _ rfl rfl rfl rfl rfl fun ρ hc e0 e1=>?_
            have ec0:=hc (.bool false)
            clear hJ hsame AJ hcl hsz
            go_simp
           ·intro u w' hF
            change Exit.then _ _ Exit.normal (Act.put (Act.put (Act.put (Act.put (Act.put (Act.put (Act.put (Act.put (Act.put (Act.put (Act.put (Act.put (Act.put (Act.put (Act.put (Act.put (Act.put (Act.put (Act.put (Act.put (Act.put (Aw _ u 0 _) (some 110) (u 0)) (some 111) (u 1)) (some 112) (u 2)) (some 113) (u 3)) (some 114) (u 4)) (some 115) (u 5)) (some 116) (u 6)) (some 117) (u 7)) (some 118) (u 8)) (some 119) (u 9)) (some 120) (u 10)) (some 121) (u 11)) (some 122) (u 12)) (some 123) (u 13)) (some 124) (u 14)) (some 125) (u 15)) (some 126) (u 16)) (some 127) (u 17)) (some 128) (u 18)) (some 129) (u 19)) (some 130) (u 20)) _
            simp only [Aw]
            have f:u 20=.bool false:=hF.QU (j:=20) (by decide) rfl rfl
            have hk:=hF.kept.toBelow (Nat.le_refl _) (by simp)
            clear hF
            generalize u 0=y0
            generalize u 1=y1
            generalize u 2=y2
            generalize u 3=y3
            generalize u 4=y4
            generalize u 5=y5
            generalize u 6=y6
            generalize u 7=y7
            generalize u 8=y8
            generalize u 9=y9
            generalize u 10=y10
            generalize u 11=y11
            generalize u 12=y12
            generalize u 13=y13
            generalize u 14=y14
            generalize u 15=y15
            generalize u 16=y16
            generalize u 17=y17
            generalize u 18=y18
            generalize u 19=y19
            generalize u 20=y20 at f⊢
            subst f
            go_simp
            go_step
            go_meet
            exact⟨rfl,hk⟩
          ·skip
           have htx:PG.text (U.g.f y) U.g.AB=PG.text (T.g.f y) T.g.AB:=by rw [U6.out y (by omega),U2.out]
           have HTX:=hide htx
           clear htx
           have UT:=hide (fun w' (h:IsG w' U.g (gv U.g.rows U.g.AB (.slice A5 (U.g.rows*U.g.AB) c5)))=>(show Calls Tryz.prog 16 #[gv U.g.rows U.g.AB (.slice A5 (U.g.rows*U.g.AB) c5),.int .i64 (y:Nat)] w' (fun e w''=>e=.returned (.string (strOfNums (PG.text (T.g.f y) T.g.AB)))/\Below w'.heap.size w' w'') from by have e:=KO RU.out.g h y (by rw [U1.out];exact hy);rw [HTX.out] at e;exact e))
           refine DI (n:=156) [] (fun _=> #[]) [(0,0,0,0,0),(0,0,0,0,0),(0,0,0,0,0),(0,0,0,0,0),(0,0,0,0,0),(0,0,0,0,0),(0,0,0,0,0),(0,0,0,0,0),(0,0,0,0,0),(0,0,0,0,0),(0,0,0,0,0),(0,0,0,0,0),(0,0,0,0,0),(0,0,0,0,0),(0,0,0,0,0),(0,0,0,0,0),(0,0,0,0,0),(0,0,0,0,0),(0,0,0,0,0),(0,0,0,0,0),(0,0,0,0,0)] (fun j=> [(.int .i64 (y:Nat)),(.pointer (some ⟨gt,6,none⟩)),(.int .i64 (T.top:Nat)),(.bool false),(.bool false),(.int .i64 (y:Nat)),(.pointer (some ⟨gt,7,none⟩)),(.int .i64 (T.bot:Nat)),(.bool true),(.bool true),(.bool true),(.pointer (some ⟨gu,0,none⟩)),(.agg #[.int .i64 (U.g.rows:Nat),.int .i64 (U.g.AB:Nat),.slice A5 (U.g.rows*U.g.AB) c5]),(.int .i64 (y:Nat)),(.string (strOfNums (PG.text (T.g.f y) T.g.AB))),(.pointer (some ⟨gt,0,none⟩)),(.agg #[.int .i64 (T.g.rows:Nat),.int .i64 (T.g.AB:Nat),.slice A3 (T.g.rows*T.g.AB) c3]),(.int .i64 (y:Nat)),(.string (strOfNums (PG.text (T.g.f y) T.g.AB))),(.bool false),(.bool false)].getD j undef) [] (fun _=>0) (by kernel_rfl) (by kernel_rfl) (by kernel_rfl) rfl (by kernel_rfl) (Cy rfl) (fun i j h=>by revert h;exact Cy (p:=fun _=>_) rfl i) (Aj.nil _) (fun hGS=>Kr ⟨?_,?_,?_,?_,?_,?_,?_,?_,?_,?_,?_,?_,?_,?_,?_,?_,?_,?_,?_,?_,?_⟩) ?_
           ·intro L a w' hL hsame hsz hJ AJ hcl
            refine Ao hJ hGS hcl hL 19 (.int .i64 (y:Nat)) (.int .i64 (y:Nat)) (Ab hsame (by kernel_rfl)) _ rfl rfl rfl rfl rfl fun ρ _ e0=>?_
            clear hJ hsame AJ hcl hsz
            go_simp
           ·intro L a w' hL hsame hsz hJ AJ hcl
            refine Ao hJ hGS hcl hL 12 (.pointer (some ⟨gt,0,none⟩)) (.pointer (some ⟨gt,6,none⟩)) (Ab hsame (by kernel_rfl)) _ rfl rfl rfl rfl rfl fun ρ _ e0=>?_
            clear hJ hsame AJ hcl hsz
            go_simp
           ·intro L a w' hL hsame hsz hJ AJ hcl
            have q0:w'.cell? ⟨gt,6,none⟩=some (.int .i64 (T.top:Nat)):=(hJ.Ah ((show Box _ gt 34 (scA (.slice A3 (T.g.rows*T.g.AB) c3) T) from LV.out)) (by simp)).cell 6
            refine Ao hJ hGS hcl hL 111 (.pointer (some ⟨gt,6,none⟩)) (.int .i64 (T.top:Nat)) (gslot hJ AJ 1 (by kernel_rfl) (by kernel_rfl) (by decide) rfl rfl) _ rfl rfl rfl rfl rfl fun ρ _ e0=>?_
            clear hJ hsame AJ hcl hsz
            go_simp
           ·intro L a w' hL hsame hsz hJ AJ hcl
            refine SL hJ hGS hcl hL 110 112 (.int .i64 (y:Nat)) (.int .i64 (T.top:Nat)) (.bool false) (gslot hJ AJ 0 (by kernel_rfl) (by kernel_rfl) (by decide) rfl rfl) (gslot hJ AJ 2 (by kernel_rfl) (by kernel_rfl) (by decide) rfl rfl) _ rfl rfl rfl rfl rfl fun ρ _ e0 e1=>?_
            clear hJ hsame AJ hcl hsz
            go_simp
           ·intro L a w' hL hsame hsz hJ AJ hcl
            refine Ao hJ hGS hcl hL 113 (.bool false) (.bool false) (gslot hJ AJ 3 (by kernel_rfl) (by kernel_rfl) (by decide) rfl rfl) _ rfl rfl rfl rfl rfl fun ρ _ e0=>?_
            clear hJ hsame AJ hcl hsz
            go_simp
           ·intro L a w' hL hsame hsz hJ AJ hcl
            have gd:valOf _ 4 a=.bool false:=hJ.valOf (by decide) (AZ AJ 4 (by kernel_rfl)) rfl rfl
            have hb:=hJ.kept.toBelow (Nat.le_refl _) (by simp)
            have e0:a.eval (.tmp 19)=(.int .i64 (y:Nat)):=Ab hsame (by kernel_rfl)
            refine Step.val _ rfl rfl (Ak (g:=4) (b:=false) rfl gd) (.int .i64 (y:Nat)) w' (fun ρ hρ=>?_) (hJ.val hGS hcl hL rfl (Below.refl _ _) _ rfl)
            rw [hρ] at e0
            clear hJ hsame AJ hcl hρ hsz hb gd
            go_simp
           ·intro L a w' hL hsame hsz hJ AJ hcl
            have gd:valOf _ 4 a=.bool false:=hJ.valOf (by decide) (AZ AJ 4 (by kernel_rfl)) rfl rfl
            have hb:=hJ.kept.toBelow (Nat.le_refl _) (by simp)
            have e0:a.eval (.tmp 12)=(.pointer (some ⟨gt,0,none⟩)):=Ab hsame (by kernel_rfl)
            refine Step.val _ rfl rfl (Ak (g:=4) (b:=false) rfl gd) (.pointer (some ⟨gt,7,none⟩)) w' (fun ρ hρ=>?_) (hJ.val hGS hcl hL rfl (Below.refl _ _) _ rfl)
            rw [hρ] at e0
            clear hJ hsame AJ hcl hρ hsz hb gd
            go_simp
           ·intro L a w' hL hsame hsz hJ AJ hcl
            have gd:valOf _ 4 a=.bool false:=hJ.valOf (by decide) (AZ AJ 4 (by kernel_rfl)) rfl rfl
            have hb:=hJ.kept.toBelow (Nat.le_refl _) (by simp)
            have e0:a.eval (.tmp 116)=(.pointer (some ⟨gt,7,none⟩)):=AU (j:=6) (by kernel_rfl) (hJ.valOf (by decide) (AZ AJ 6 (by kernel_rfl)) rfl rfl)
            have hx:=hJ.Ah ((show Box _ gt 34 (scA (.slice A3 (T.g.rows*T.g.AB) c3) T) from LV.out)) (by simp)
            have q0:w'.cell? ⟨gt,7,none⟩=some (.int .i64 (T.bot:Nat)):=hx.cell 7
            refine Step.val _ rfl rfl (Ak (g:=4) (b:=false) rfl gd) (.int .i64 (T.bot:Nat)) w' (fun ρ hρ=>?_) (hJ.val hGS hcl hL rfl (Below.refl _ _) _ rfl)
            clear hx
            rw [hρ] at e0
            clear hJ hsame AJ hcl hρ hsz hb gd
            go_simp
           ·intro L a w' hL hsame hsz hJ AJ hcl
            have gd:valOf _ 4 a=.bool false:=hJ.valOf (by decide) (AZ AJ 4 (by kernel_rfl)) rfl rfl
            have hb:=hJ.kept.toBelow (Nat.le_refl _) (by simp)
            have e0:a.eval (.tmp 115)=(.int .i64 (y:Nat)):=AU (j:=5) (by kernel_rfl) (hJ.valOf (by decide) (AZ AJ 5 (by kernel_rfl)) rfl rfl)
            have e1:a.eval (.tmp 117)=(.int .i64 (T.bot:Nat)):=AU (j:=7) (by kernel_rfl) (hJ.valOf (by decide) (AZ AJ 7 (by kernel_rfl)) rfl rfl)
            refine Step.val _ rfl rfl (Ak (g:=4) (b:=false) rfl gd) (.bool true) w' (fun ρ hρ=>?_) (hJ.val hGS hcl hL rfl (Below.refl _ _) _ rfl)
            rw [hρ] at e0 e1
            clear hJ hsame AJ hcl hρ hsz hb gd
            go_simp
           ·intro L a w' hL hsame hsz hJ AJ hcl
            have hb:=hJ.kept.toBelow (Nat.le_refl _) (by simp)
            have e0:a.eval (.tmp 114)=(.bool false):=AU (j:=4) (by kernel_rfl) (hJ.valOf (by decide) (AZ AJ 4 (by kernel_rfl)) rfl rfl)
            have e2:a.eval (.tmp 118)=(.bool true):=AU (j:=8) (by kernel_rfl) (hJ.valOf (by decide) (AZ AJ 8 (by kernel_rfl)) rfl rfl)
            refine Step.val _ rfl rfl (AY rfl) (.bool true) w' (fun ρ hρ=>?_) (hJ.val hGS hcl hL rfl (Below.refl _ _) _ rfl)
            rw [hρ] at e0 e2
            have ec0:ρ (.const (.bool true))=(.bool true):=(hρ _).symm
            clear hJ hsame AJ hcl hρ hsz hb
            go_simp
           ·intro L a w' hL hsame hsz hJ AJ hcl
            refine Ao hJ hGS hcl hL 119 (.bool true) (.bool true) (gslot hJ AJ 9 (by kernel_rfl) (by kernel_rfl) (by decide) rfl rfl) _ rfl rfl rfl rfl rfl fun ρ _ e0=>?_
            clear hJ hsame AJ hcl hsz
            go_simp
           ·intro L a w' hL hsame hsz hJ AJ hcl
            have gd:valOf _ 10 a=.bool true:=hJ.valOf (by decide) (AZ AJ 10 (by kernel_rfl)) rfl rfl
            have hb:=hJ.kept.toBelow (Nat.le_refl _) (by simp)
            have e0:a.eval (.tmp 18)=(.pointer (some ⟨gu,0,none⟩)):=Ab hsame (by kernel_rfl)
            refine Step.val _ rfl rfl (Ak (g:=10) (b:=true) rfl gd) (.pointer (some ⟨gu,0,none⟩)) w' (fun ρ hρ=>?_) (hJ.val hGS hcl hL rfl (Below.refl _ _) _ rfl)
            rw [hρ] at e0
            clear hJ hsame AJ hcl hρ hsz hb gd
            go_simp
           ·intro L a w' hL hsame hsz hJ AJ hcl
            have gd:valOf _ 10 a=.bool true:=hJ.valOf (by decide) (AZ AJ 10 (by kernel_rfl)) rfl rfl
            have hb:=hJ.kept.toBelow (Nat.le_refl _) (by simp)
            have e0:a.eval (.tmp 121)=(.pointer (some ⟨gu,0,none⟩)):=AU (j:=11) (by kernel_rfl) (hJ.valOf (by decide) (AZ AJ 11 (by kernel_rfl)) rfl rfl)
            have hx:=hJ.Ah ((show Box _ gu 34 (scA (.slice A5 (U.g.rows*U.g.AB) c5) U) from Oo.out)) (by simp)
            have q0:w'.cell? ⟨gu,0,none⟩=some (.int .i64 (U.g.rows:Nat)):=hx.cell 0
            have q1:w'.cell? ⟨gu,1,none⟩=some (.int .i64 (U.g.AB:Nat)):=hx.cell 1
            have q2:w'.cell? ⟨gu,2,none⟩=some (.slice A5 (U.g.rows*U.g.AB) c5):=hx.cell 2
            refine Step.val _ rfl rfl (Ak (g:=10) (b:=true) rfl gd) (.agg #[.int .i64 (U.g.rows:Nat),.int .i64 (U.g.AB:Nat),.slice A5 (U.g.rows*U.g.AB) c5]) w' (fun ρ hρ=>?_) (hJ.val hGS hcl hL rfl (Below.refl _ _) _ rfl)
            clear hx
            rw [hρ] at e0
            clear hJ hsame AJ hcl hρ hsz hb gd
            go_simp
           ·intro L a w' hL hsame hsz hJ AJ hcl
            have gd:valOf _ 10 a=.bool true:=hJ.valOf (by decide) (AZ AJ 10 (by kernel_rfl)) rfl rfl
            have hb:=hJ.kept.toBelow (Nat.le_refl _) (by simp)
            have e0:a.eval (.tmp 19)=(.int .i64 (y:Nat)):=Ab hsame (by kernel_rfl)
            refine Step.val _ rfl rfl (Ak (g:=10) (b:=true) rfl gd) (.int .i64 (y:Nat)) w' (fun ρ hρ=>?_) (hJ.val hGS hcl hL rfl (Below.refl _ _) _ rfl)
            rw [hρ] at e0
            clear hJ hsame AJ hcl hρ hsz hb gd
            go_simp
           ·intro L a w' hL hsame hsz hJ AJ hcl
            have gd:valOf _ 10 a=.bool true:=hJ.valOf (by decide) (AZ AJ 10 (by kernel_rfl)) rfl rfl
            have hb:=hJ.kept.toBelow (Nat.le_refl _) (by simp)
            have e0:a.eval (.tmp 122)=(.agg #[.int .i64 (U.g.rows:Nat),.int .i64 (U.g.AB:Nat),.slice A5 (U.g.rows*U.g.AB) c5]):=AU (j:=12) (by kernel_rfl) (hJ.valOf (by decide) (AZ AJ 12 (by kernel_rfl)) rfl rfl)
            have e1:a.eval (.tmp 123)=(.int .i64 (y:Nat)):=AU (j:=13) (by kernel_rfl) (hJ.valOf (by decide) (AZ AJ 13 (by kernel_rfl)) rfl rfl)
            refine Step.call _ rfl rfl (Ak (g:=10) (b:=true) rfl gd) 16 #[.agg #[.int .i64 (U.g.rows:Nat),.int .i64 (U.g.AB:Nat),.slice A5 (U.g.rows*U.g.AB) c5],.int .i64 (y:Nat)] (fun ρ hρ=>?_) ?_
            ·skip
             rw [hρ] at e0 e1
             have ef:ρ (.func 16)=.func (.func 16) #[] #[] :=(hρ _).symm
             clear hJ hsame AJ hcl hρ hsz hb gd
             go_simp
            ·refine(UT.out _ (gW.out.low hb)).mono ?_
             rintro e w2 ⟨rfl,bb⟩
             exact⟨_,rfl,hJ.val hGS hcl hL rfl bb _ rfl⟩
           ·intro L a w' hL hsame hsz hJ AJ hcl
            have gd:valOf _ 10 a=.bool true:=hJ.valOf (by decide) (AZ AJ 10 (by kernel_rfl)) rfl rfl
            have hb:=hJ.kept.toBelow (Nat.le_refl _) (by simp)
            have e0:a.eval (.tmp 12)=(.pointer (some ⟨gt,0,none⟩)):=Ab hsame (by kernel_rfl)
            refine Step.val _ rfl rfl (Ak (g:=10) (b:=true) rfl gd) (.pointer (some ⟨gt,0,none⟩)) w' (fun ρ hρ=>?_) (hJ.val hGS hcl hL rfl (Below.refl _ _) _ rfl)
            rw [hρ] at e0
            clear hJ hsame AJ hcl hρ hsz hb gd
            go_simp
           ·intro L a w' hL hsame hsz hJ AJ hcl
            have gd:valOf _ 10 a=.bool true:=hJ.valOf (by decide) (AZ AJ 10 (by kernel_rfl)) rfl rfl
            have hb:=hJ.kept.toBelow (Nat.le_refl _) (by simp)
            have e0:a.eval (.tmp 125)=(.pointer (some ⟨gt,0,none⟩)):=AU (j:=15) (by kernel_rfl) (hJ.valOf (by decide) (AZ AJ 15 (by kernel_rfl)) rfl rfl)
            have hx:=hJ.Ah ((show Box _ gt 34 (scA (.slice A3 (T.g.rows*T.g.AB) c3) T) from LV.out)) (by simp)
            have q0:w'.cell? ⟨gt,0,none⟩=some (.int .i64 (T.g.rows:Nat)):=hx.cell 0
            have q1:w'.cell? ⟨gt,1,none⟩=some (.int .i64 (T.g.AB:Nat)):=hx.cell 1
            have q2:w'.cell? ⟨gt,2,none⟩=some (.slice A3 (T.g.rows*T.g.AB) c3):=hx.cell 2
            refine Step.val _ rfl rfl (Ak (g:=10) (b:=true) rfl gd) (.agg #[.int .i64 (T.g.rows:Nat),.int .i64 (T.g.AB:Nat),.slice A3 (T.g.rows*T.g.AB) c3]) w' (fun ρ hρ=>?_) (hJ.val hGS hcl hL rfl (Below.refl _ _) _ rfl)
            clear hx
            rw [hρ] at e0
            clear hJ hsame AJ hcl hρ hsz hb gd
            go_simp
           ·intro L a w' hL hsame hsz hJ AJ hcl
            have gd:valOf _ 10 a=.bool true:=hJ.valOf (by decide) (AZ AJ 10 (by kernel_rfl)) rfl rfl
            have hb:=hJ.kept.toBelow (Nat.le_refl _) (by simp)
            have e0:a.eval (.tmp 19)=(.int .i64 (y:Nat)):=Ab hsame (by kernel_rfl)
            refine Step.val _ rfl rfl (Ak (g:=10) (b:=true) rfl gd) (.int .i64 (y:Nat)) w' (fun ρ hρ=>?_) (hJ.val hGS hcl hL rfl (Below.refl _ _) _ rfl)
            rw [hρ] at e0
            clear hJ hsame AJ hcl hρ hsz hb gd
            go_simp
           ·intro L a w' hL hsame hsz hJ AJ hcl
            have gd:valOf _ 10 a=.bool true:=hJ.valOf (by decide) (AZ AJ 10 (by kernel_rfl)) rfl rfl
            have hb:=hJ.kept.toBelow (Nat.le_refl _) (by simp)
            have e0:a.eval (.tmp 126)=(.agg #[.int .i64 (T.g.rows:Nat),.int .i64 (T.g.AB:Nat),.slice A3 (T.g.rows*T.g.AB) c3]):=AU (j:=16) (by kernel_rfl) (hJ.valOf (by decide) (AZ AJ 16 (by kernel_rfl)) rfl rfl)
            have e1:a.eval (.tmp 127)=(.int .i64 (y:Nat)):=AU (j:=17) (by kernel_rfl) (hJ.valOf (by decide) (AZ AJ 17 (by kernel_rfl)) rfl rfl)
            refine Step.call _ rfl rfl (Ak (g:=10) (b:=true) rfl gd) 16 #[.agg #[.int .i64 (T.g.rows:Nat),.int .i64 (T.g.AB:Nat),.slice A3 (T.g.rows*T.g.AB) c3],.int .i64 (y:Nat)] (fun ρ hρ=>?_) ?_
            ·skip
             rw [hρ] at e0 e1
             have ef:ρ (.func 16)=.func (.func 16) #[] #[] :=(hρ _).symm
             clear hJ hsame AJ hcl hρ hsz hb gd
             go_simp
            ·refine(KO RT.out.g (Tm.out.low hb) y hy).mono ?_
             rintro e w2 ⟨rfl,bb⟩
             exact⟨_,rfl,hJ.val hGS hcl hL rfl bb _ rfl⟩
           ·intro L a w' hL hsame hsz hJ AJ hcl
            have gd:valOf _ 10 a=.bool true:=hJ.valOf (by decide) (AZ AJ 10 (by kernel_rfl)) rfl rfl
            have hb:=hJ.kept.toBelow (Nat.le_refl _) (by simp)
            have e0:a.eval (.tmp 124)=(.string (strOfNums (PG.text (T.g.f y) T.g.AB))):=AU (j:=14) (by kernel_rfl) (hJ.valOf (by decide) (AZ AJ 14 (by kernel_rfl)) rfl rfl)
            have e1:a.eval (.tmp 128)=(.string (strOfNums (PG.text (T.g.f y) T.g.AB))):=AU (j:=18) (by kernel_rfl) (hJ.valOf (by decide) (AZ AJ 18 (by kernel_rfl)) rfl rfl)
            refine Step.val _ rfl rfl (Ak (g:=10) (b:=true) rfl gd) (.bool false) w' (fun ρ hρ=>?_) (hJ.val hGS hcl hL rfl (Below.refl _ _) _ rfl)
            rw [hρ] at e0 e1
            clear hJ hsame AJ hcl hρ hsz hb gd
            go_simp
           ·intro L a w' hL hsame hsz hJ AJ hcl
            refine SL hJ hGS hcl hL 120 129 (.bool true) (.bool false) (.bool false) (gslot hJ AJ 10 (by kernel_rfl) (by kernel_rfl) (by decide) rfl rfl) (gslot hJ AJ 19 (by kernel_rfl) (by kernel_rfl) (by decide) rfl rfl) _ rfl rfl rfl rfl rfl fun ρ hc e0 e1=>?_
            have ec0:=hc (.bool false)
            clear hJ hsame AJ hcl hsz
            go_simp
           ·intro u w' hF
            change Exit.then _ _ Exit.normal (Act.put (Act.put (Act.put (Act.put (Act.put (Act.put (Act.put (Act.put (Act.put (Act.put (Act.put (Act.put (Act.put (Act.put (Act.put (Act.put (Act.put (Act.put (Act.put (Act.put (Act.put (Aw _ u 0 _) (some 110) (u 0)) (some 111) (u 1)) (some 112) (u 2)) (some 113) (u 3)) (some 114) (u 4)) (some 115) (u 5)) (some 116) (u 6)) (some 117) (u 7)) (some 118) (u 8)) (some 119) (u 9)) (some 120) (u 10)) (some 121) (u 11)) (some 122) (u 12)) (some 123) (u 13)) (some 124) (u 14)) (some 125) (u 15)) (some 126) (u 16)) (some 127) (u 17)) (some 128) (u 18)) (some 129) (u 19)) (some 130) (u 20)) _
            simp only [Aw]
            have f:u 20=.bool false:=hF.QU (j:=20) (by decide) rfl rfl
            have hk:=hF.kept.toBelow (Nat.le_refl _) (by simp)
            clear hF
            generalize u 0=y0
            generalize u 1=y1
            generalize u 2=y2
            generalize u 3=y3
            generalize u 4=y4
            generalize u 5=y5
            generalize u 6=y6
            generalize u 7=y7
            generalize u 8=y8
            generalize u 9=y9
            generalize u 10=y10
            generalize u 11=y11
            generalize u 12=y12
            generalize u 13=y13
            generalize u 14=y14
            generalize u 15=y15
            generalize u 16=y16
            generalize u 17=y17
            generalize u 18=y18
            generalize u 19=y19
            generalize u 20=y20 at f⊢
            subst f
            go_simp
            go_step
            go_meet
            exact⟨rfl,hk⟩
          ·skip
           refine DI (n:=156) [] (fun _=> #[]) [(0,0,0,0,0),(0,0,0,0,0),(0,0,0,0,0),(0,0,0,0,0),(0,0,0,0,0),(0,0,0,0,0),(0,0,0,0,0),(0,0,0,0,0),(0,0,0,0,0),(0,0,0,0,0),(0,0,0,0,0),(0,0,0,0,0),(0,0,0,0,0),(0,0,0,0,0),(0,0,0,0,0),(0,0,0,0,0),(0,0,0,0,0),(0,0,0,0,0),(0,0,0,0,0),(0,0,0,0,0),(0,0,0,0,0)] (fun j=> [(.int .i64 (y:Nat)),(.pointer (some ⟨gt,6,none⟩)),(.int .i64 (T.top:Nat)),(.bool false),(.bool false),(.int .i64 (y:Nat)),(.pointer (some ⟨gt,7,none⟩)),(.int .i64 (T.bot:Nat)),(.bool false),(.bool false),(.bool false),undef,undef,undef,undef,undef,undef,undef,undef,undef,(.bool false)].getD j undef) [] (fun _=>0) (by kernel_rfl) (by kernel_rfl) (by kernel_rfl) rfl (by kernel_rfl) (Cy rfl) (fun i j h=>by revert h;exact Cy (p:=fun _=>_) rfl i) (Aj.nil _) (fun hGS=>Kr ⟨?_,?_,?_,?_,?_,?_,?_,?_,?_,?_,?_,?_,?_,?_,?_,?_,?_,?_,?_,?_,?_⟩) ?_
           ·intro L a w' hL hsame hsz hJ AJ hcl
            refine Ao hJ hGS hcl hL 19 (.int .i64 (y:Nat)) (.int .i64 (y:Nat)) (Ab hsame (by kernel_rfl)) _ rfl rfl rfl rfl rfl fun ρ _ e0=>?_
            clear hJ hsame AJ hcl hsz
            go_simp
           ·intro L a w' hL hsame hsz hJ AJ hcl
            refine Ao hJ hGS hcl hL 12 (.pointer (some ⟨gt,0,none⟩)) (.pointer (some ⟨gt,6,none⟩)) (Ab hsame (by kernel_rfl)) _ rfl rfl rfl rfl rfl fun ρ _ e0=>?_
            clear hJ hsame AJ hcl hsz
            go_simp
           ·intro L a w' hL hsame hsz hJ AJ hcl
            have q0:w'.cell? ⟨gt,6,none⟩=some (.int .i64 (T.top:Nat)):=(hJ.Ah ((show Box _ gt 34 (scA (.slice A3 (T.g.rows*T.g.AB) c3) T) from LV.out)) (by simp)).cell 6
            refine Ao hJ hGS hcl hL 111 (.pointer (some ⟨gt,6,none⟩)) (.int .i64 (T.top:Nat)) (gslot hJ AJ 1 (by kernel_rfl) (by kernel_rfl) (by decide) rfl rfl) _ rfl rfl rfl rfl rfl fun ρ _ e0=>?_
            clear hJ hsame AJ hcl hsz
            go_simp
           ·intro L a w' hL hsame hsz hJ AJ hcl
            refine SL hJ hGS hcl hL 110 112 (.int .i64 (y:Nat)) (.int .i64 (T.top:Nat)) (.bool false) (gslot hJ AJ 0 (by kernel_rfl) (by kernel_rfl) (by decide) rfl rfl) (gslot hJ AJ 2 (by kernel_rfl) (by kernel_rfl) (by decide) rfl rfl) _ rfl rfl rfl rfl rfl fun ρ _ e0 e1=>?_
            clear hJ hsame AJ hcl hsz
            go_simp
           ·intro L a w' hL hsame hsz hJ AJ hcl
            refine Ao hJ hGS hcl hL 113 (.bool false) (.bool false) (gslot hJ AJ 3 (by kernel_rfl) (by kernel_rfl) (by decide) rfl rfl) _ rfl rfl rfl rfl rfl fun ρ _ e0=>?_
            clear hJ hsame AJ hcl hsz
            go_simp
           ·intro L a w' hL hsame hsz hJ AJ hcl
            have gd:valOf _ 4 a=.bool false:=hJ.valOf (by decide) (AZ AJ 4 (by kernel_rfl)) rfl rfl
            have hb:=hJ.kept.toBelow (Nat.le_refl _) (by simp)
            have e0:a.eval (.tmp 19)=(.int .i64 (y:Nat)):=Ab hsame (by kernel_rfl)
            refine Step.val _ rfl rfl (Ak (g:=4) (b:=false) rfl gd) (.int .i64 (y:Nat)) w' (fun ρ hρ=>?_) (hJ.val hGS hcl hL rfl (Below.refl _ _) _ rfl)
            rw [hρ] at e0
            clear hJ hsame AJ hcl hρ hsz hb gd
            go_simp
           ·intro L a w' hL hsame hsz hJ AJ hcl
            have gd:valOf _ 4 a=.bool false:=hJ.valOf (by decide) (AZ AJ 4 (by kernel_rfl)) rfl rfl
            have hb:=hJ.kept.toBelow (Nat.le_refl _) (by simp)
            have e0:a.eval (.tmp 12)=(.pointer (some ⟨gt,0,none⟩)):=Ab hsame (by kernel_rfl)
            refine Step.val _ rfl rfl (Ak (g:=4) (b:=false) rfl gd) (.pointer (some ⟨gt,7,none⟩)) w' (fun ρ hρ=>?_) (hJ.val hGS hcl hL rfl (Below.refl _ _) _ rfl)
            rw [hρ] at e0
            clear hJ hsame AJ hcl hρ hsz hb gd
            go_simp
           ·intro L a w' hL hsame hsz hJ AJ hcl
            have gd:valOf _ 4 a=.bool false:=hJ.valOf (by decide) (AZ AJ 4 (by kernel_rfl)) rfl rfl
            have hb:=hJ.kept.toBelow (Nat.le_refl _) (by simp)
            have e0:a.eval (.tmp 116)=(.pointer (some ⟨gt,7,none⟩)):=AU (j:=6) (by kernel_rfl) (hJ.valOf (by decide) (AZ AJ 6 (by kernel_rfl)) rfl rfl)
            have hx:=hJ.Ah ((show Box _ gt 34 (scA (.slice A3 (T.g.rows*T.g.AB) c3) T) from LV.out)) (by simp)
            have q0:w'.cell? ⟨gt,7,none⟩=some (.int .i64 (T.bot:Nat)):=hx.cell 7
            refine Step.val _ rfl rfl (Ak (g:=4) (b:=false) rfl gd) (.int .i64 (T.bot:Nat)) w' (fun ρ hρ=>?_) (hJ.val hGS hcl hL rfl (Below.refl _ _) _ rfl)
            clear hx
            rw [hρ] at e0
            clear hJ hsame AJ hcl hρ hsz hb gd
            go_simp
           ·intro L a w' hL hsame hsz hJ AJ hcl
            have gd:valOf _ 4 a=.bool false:=hJ.valOf (by decide) (AZ AJ 4 (by kernel_rfl)) rfl rfl
            have hb:=hJ.kept.toBelow (Nat.le_refl _) (by simp)
            have e0:a.eval (.tmp 115)=(.int .i64 (y:Nat)):=AU (j:=5) (by kernel_rfl) (hJ.valOf (by decide) (AZ AJ 5 (by kernel_rfl)) rfl rfl)
            have e1:a.eval (.tmp 117)=(.int .i64 (T.bot:Nat)):=AU (j:=7) (by kernel_rfl) (hJ.valOf (by decide) (AZ AJ 7 (by kernel_rfl)) rfl rfl)
            refine Step.val _ rfl rfl (Ak (g:=4) (b:=false) rfl gd) (.bool false) w' (fun ρ hρ=>?_) (hJ.val hGS hcl hL rfl (Below.refl _ _) _ rfl)
            rw [hρ] at e0 e1
            clear hJ hsame AJ hcl hρ hsz hb gd
            go_simp
           ·intro L a w' hL hsame hsz hJ AJ hcl
            have hb:=hJ.kept.toBelow (Nat.le_refl _) (by simp)
            have e0:a.eval (.tmp 114)=(.bool false):=AU (j:=4) (by kernel_rfl) (hJ.valOf (by decide) (AZ AJ 4 (by kernel_rfl)) rfl rfl)
            have e2:a.eval (.tmp 118)=(.bool false):=AU (j:=8) (by kernel_rfl) (hJ.valOf (by decide) (AZ AJ 8 (by kernel_rfl)) rfl rfl)
            refine Step.val _ rfl rfl (AY rfl) (.bool false) w' (fun ρ hρ=>?_) (hJ.val hGS hcl hL rfl (Below.refl _ _) _ rfl)
            rw [hρ] at e0 e2
            have ec0:ρ (.const (.bool true))=(.bool true):=(hρ _).symm
            clear hJ hsame AJ hcl hρ hsz hb
            go_simp
           ·intro L a w' hL hsame hsz hJ AJ hcl
            refine Ao hJ hGS hcl hL 119 (.bool false) (.bool false) (gslot hJ AJ 9 (by kernel_rfl) (by kernel_rfl) (by decide) rfl rfl) _ rfl rfl rfl rfl rfl fun ρ _ e0=>?_
            clear hJ hsame AJ hcl hsz
            go_simp
           ·intro L a w' hL hsame hsz hJ AJ hcl
            have gd:valOf _ 10 a=.bool false:=hJ.valOf (by decide) (AZ AJ 10 (by kernel_rfl)) rfl rfl
            exact GStep.pass _ rfl (BJ (g:=10) (b:=true) (c:=false) rfl gd (by decide)) (hJ.val hGS hcl hL rfl (Below.refl _ _) _ rfl)
           ·intro L a w' hL hsame hsz hJ AJ hcl
            have gd:valOf _ 10 a=.bool false:=hJ.valOf (by decide) (AZ AJ 10 (by kernel_rfl)) rfl rfl
            exact GStep.pass _ rfl (BJ (g:=10) (b:=true) (c:=false) rfl gd (by decide)) (hJ.val hGS hcl hL rfl (Below.refl _ _) _ rfl)
           ·intro L a w' hL hsame hsz hJ AJ hcl
            have gd:valOf _ 10 a=.bool false:=hJ.valOf (by decide) (AZ AJ 10 (by kernel_rfl)) rfl rfl
            exact GStep.pass _ rfl (BJ (g:=10) (b:=true) (c:=false) rfl gd (by decide)) (hJ.val hGS hcl hL rfl (Below.refl _ _) _ rfl)
           ·intro L a w' hL hsame hsz hJ AJ hcl
            have gd:valOf _ 10 a=.bool false:=hJ.valOf (by decide) (AZ AJ 10 (by kernel_rfl)) rfl rfl
            exact GStep.pass _ rfl (BJ (g:=10) (b:=true) (c:=false) rfl gd (by decide)) (hJ.val hGS hcl hL rfl (Below.refl _ _) _ rfl)
           ·intro L a w' hL hsame hsz hJ AJ hcl
            have gd:valOf _ 10 a=.bool false:=hJ.valOf (by decide) (AZ AJ 10 (by kernel_rfl)) rfl rfl
            exact GStep.pass _ rfl (BJ (g:=10) (b:=true) (c:=false) rfl gd (by decide)) (hJ.val hGS hcl hL rfl (Below.refl _ _) _ rfl)
           ·intro L a w' hL hsame hsz hJ AJ hcl
            have gd:valOf _ 10 a=.bool false:=hJ.valOf (by decide) (AZ AJ 10 (by kernel_rfl)) rfl rfl
            exact GStep.pass _ rfl (BJ (g:=10) (b:=true) (c:=false) rfl gd (by decide)) (hJ.val hGS hcl hL rfl (Below.refl _ _) _ rfl)
           ·intro L a w' hL hsame hsz hJ AJ hcl
            have gd:valOf _ 10 a=.bool false:=hJ.valOf (by decide) (AZ AJ 10 (by kernel_rfl)) rfl rfl
            exact GStep.pass _ rfl (BJ (g:=10) (b:=true) (c:=false) rfl gd (by decide)) (hJ.val hGS hcl hL rfl (Below.refl _ _) _ rfl)
           ·intro L a w' hL hsame hsz hJ AJ hcl
            have gd:valOf _ 10 a=.bool false:=hJ.valOf (by decide) (AZ AJ 10 (by kernel_rfl)) rfl rfl
            exact GStep.pass _ rfl (BJ (g:=10) (b:=true) (c:=false) rfl gd (by decide)) (hJ.val hGS hcl hL rfl (Below.refl _ _) _ rfl)
           ·intro L a w' hL hsame hsz hJ AJ hcl
            have gd:valOf _ 10 a=.bool false:=hJ.valOf (by decide) (AZ AJ 10 (by kernel_rfl)) rfl rfl
            exact GStep.pass _ rfl (BJ (g:=10) (b:=true) (c:=false) rfl gd (by decide)) (hJ.val hGS hcl hL rfl (Below.refl _ _) _ rfl)
           ·intro L a w' hL hsame hsz hJ AJ hcl
            have hb:=hJ.kept.toBelow (Nat.le_refl _) (by simp)
            have e0:a.eval (.tmp 120)=(.bool false):=AU (j:=10) (by kernel_rfl) (hJ.valOf (by decide) (AZ AJ 10 (by kernel_rfl)) rfl rfl)
            have e1:a.eval (.tmp 129)=undef:=AU (j:=19) (by kernel_rfl) (hJ.valOf (by decide) (AZ AJ 19 (by kernel_rfl)) rfl rfl)
            refine Step.val _ rfl rfl (AY rfl) (.bool false) w' (fun ρ hρ=>?_) (hJ.val hGS hcl hL rfl (Below.refl _ _) _ rfl)
            rw [hρ] at e0 e1
            have ec0:ρ (.const (.bool false))=(.bool false):=(hρ _).symm
            clear hJ hsame AJ hcl hρ hsz hb
            go_simp
           ·intro u w' hF
            change Exit.then _ _ Exit.normal (Act.put (Act.put (Act.put (Act.put (Act.put (Act.put (Act.put (Act.put (Act.put (Act.put (Act.put (Act.put (Act.put (Act.put (Act.put (Act.put (Act.put (Act.put (Act.put (Act.put (Act.put (Aw _ u 0 _) (some 110) (u 0)) (some 111) (u 1)) (some 112) (u 2)) (some 113) (u 3)) (some 114) (u 4)) (some 115) (u 5)) (some 116) (u 6)) (some 117) (u 7)) (some 118) (u 8)) (some 119) (u 9)) (some 120) (u 10)) (some 121) (u 11)) (some 122) (u 12)) (some 123) (u 13)) (some 124) (u 14)) (some 125) (u 15)) (some 126) (u 16)) (some 127) (u 17)) (some 128) (u 18)) (some 129) (u 19)) (some 130) (u 20)) _
            simp only [Aw]
            have f:u 20=.bool false:=hF.QU (j:=20) (by decide) rfl rfl
            have hk:=hF.kept.toBelow (Nat.le_refl _) (by simp)
            clear hF
            generalize u 0=y0
            generalize u 1=y1
            generalize u 2=y2
            generalize u 3=y3
            generalize u 4=y4
            generalize u 5=y5
            generalize u 6=y6
            generalize u 7=y7
            generalize u 8=y8
            generalize u 9=y9
            generalize u 10=y10
            generalize u 11=y11
            generalize u 12=y12
            generalize u 13=y13
            generalize u 14=y14
            generalize u 15=y15
            generalize u 16=y16
            generalize u 17=y17
            generalize u 18=y18
            generalize u 19=y19
            generalize u 20=y20 at f⊢
            subst f
            go_simp
            go_step
            go_meet
            exact⟨rfl,hk⟩
         case rest=>
          obtain⟨rfl,hb20⟩:=hcut
          go_wp2_with fail
          go_roundw
          case rel=>exact⟨y+1,by omega,by go_num,hide (HB8.out.trans (hb20.mono HB8.out.size))⟩
          case measure=>simp [intOf];omega
        ·skip
         have iA:=(show _=some (.int .i64 (T.top:Nat):Value) from LV.out.c6)
         have iB:=(show _=some (.int .i64 (T.bot:Nat):Value) from LV.out.c7)
         have L8:=(show _=some (.int .i64 (T.row:Nat):Value) from LV.out.c3)
         have k_gu_6:=(show _=some (.int .i64 (T.top:Nat):Value) from(Oo.out.c6).trans (by first | (rw [U3.out];done) | (rw [U3.out];rfl)))
         have k_gu_7:=(show _=some (.int .i64 (T.bot:Nat):Value) from(Oo.out.c7).trans (by first | (rw [U4.out];done) | (rw [U4.out];rfl)))
         have k_gu_3:=(show _=some (.int .i64 (T.row:Nat):Value) from(Oo.out.c3).trans (by first | (rw [U5.out];done) | (rw [U5.out];rfl)))
         have b1:((T.top:Int)!=(T.top:Int))=false:=by simp
         have b2:((T.bot:Int)!=(T.bot:Int))=false:=by simp
         have b3:((T.row:Int)!=(T.row:Int))=false:=by simp
         go_wp2_with fail
         go_roundw
         case rel=>exact⟨k+1,by omega,by go_num,hide (HB7.out.trans ((LX3.out.trans (HB8.out.mono LX3.out.size)).mono HB7.out.size))⟩
         case measure=>simp [intOf];omega
     ·skip
      go_wp2_with (first | (refine AX Ie.out rfl _ rfl rfl ?_))
      refine(P6 T _ RT.out _ L9.out ((HT.out.keep Ic.out).spans)).mono ?_
      rintro e wq1 ⟨rfl,hq1⟩
      have LU:=hide (Kg.out.below hq1 Kg.out.lt)
      have LQ:=hide (Ie.out.below hq1 Ie.out.lt)
      have LW:=hide (KC.out.low hq1)
      have Qx:=hide (L9.out.low hq1)
      have Kh:=hide (Ic.out.trans (hq1.mono Ic.out.size))
      clear Kg Ie KC L9 Ic hq1
      go_wp2_with fail
      refine(Er _ (HT.out.keep Kh.out) (HTB.out.keep Kh.out)).mono ?_
      rintro e wq5 ⟨rfl,hq5⟩
      have Ma:=hide (LU.out.below hq5 LU.out.lt)
      have Vr:=hide (LQ.out.below hq5 LQ.out.lt)
      have OX:=hide (LW.out.low hq5)
      have Zh:=hide (Qx.out.low hq5)
      have OY:=hide (Kh.out.trans (hq5.mono Kh.out.size))
      clear LU LQ LW Qx Kh hq5
      go_wp2_with fail
      go_ret
      exact⟨rfl,OY.out⟩
end Go.Proofs.YteecohpaecgdlaaGreatDoor
