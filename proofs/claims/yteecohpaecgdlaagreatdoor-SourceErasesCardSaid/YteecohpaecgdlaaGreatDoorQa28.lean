/- A part of the proof: SourceErases, SourceErasesAny. -/
import Derived.Test.YteecohpaecgdlaaGreatDoorQa26
set_option maxRecDepth 100000
set_option maxHeartbeats 16000000
set_option linter.unusedVariables false
namespace Go.Proofs.YteecohpaecgdlaaGreatDoor
open Go Go.RowKit
theorem SN.erased {S:SN.Sc} (hS:SN.Ad S) (line:Bool) {k:Nat} (hk:k<=2): ∀T,SN.doS S 4 0 0 0 (if line=true then 75 else 74) [(k:Int)] =T->
  T.g.rows=S.g.rows/\T.g.AB=S.g.AB/\T.row=S.row/\T.col=S.col/\T.pend=false/\ ∀y x,y<S.g.rows->x<S.g.AB->(PG.Gone (!line) S.row S.col k y x->T.g.f y x=PG.blank (SN.Aq S))/\(¬PG.Gone (!line) S.row S.col k y x-> ¬PG.OL S.row S.col y x->T.g.f y x=S.g.f y x):=by
 have ea:SN.BX [(k:Int)] 0 0=(k:Int):=by
  unfold SN.BX
  show(if (k:Int)<1 then (0:Int) else (k:Int))=_
  split<;>omega
 rintro T rfl
 cases line with
 | false=>
  have e:SN.doS S 4 0 0 0 74 [(k:Int)] =(S.uG (PG.EI S.g S.row S.col (k:Int) (SN.Aq S))).u5 false:=by
   show(S.uG (PG.EI S.g S.row S.col (SN.BX [(k:Int)] 0 0) (SN.Aq S))).u5 false=_
   rw [ea]
  rw [show(if false=true then (75:Int) else 74)=74 from rfl,e]
  exact⟨(PG.Gy _ _ _ _ _).1,(PG.Gy _ _ _ _ _).2,rfl,rfl,rfl,fun y x hy hx=>PG.Vn hS.g hS.row hS.col hk hy hx⟩
 | true=>
  have e:SN.doS S 4 0 0 0 75 [(k:Int)] =(S.uG (PG.Bf S.g S.row S.col (k:Int) (SN.Aq S))).u5 false:=by
   show(S.uG (PG.Bf S.g S.row S.col (SN.BX [(k:Int)] 0 0) (SN.Aq S))).u5 false=_
   rw [ea]
  rw [show(if true=true then (75:Int) else 74)=75 from rfl,e]
  exact⟨(PG.F9 _ _ _ _ _).1,(PG.F9 _ _ _ _ _).2,rfl,rfl,rfl,fun y x hy hx=>PG.Za hS.g hS.row hS.col hk hy hx⟩
theorem OZ (kcs:Array Value) (wt:Int) (k:Nat) (line:Bool) (S:SN.Sc) (w:World) (hk13:kcs.size=13) (hS:SN.Ad S) (hR5:S.g.rows<=5) (hK9:S.g.AB<=9) (hT:Gb w) (ht:Ez w) (hk2:k<=2)
  (KS:Hid (∀w',Below w.heap.size w w'->Calls Tryz.prog 17 #[.agg kcs] w' (Ay w' S)))
  (WI:Hid (∀w',Calls Tryz.prog 25 #[.int .i64 wt,.int .i64 0,.int .i64 2] w' fun e w''=>e=.returned (.int .i64 (k:Nat))/\w'=w'')):
  Calls Tryz.prog 9 #[.agg kcs,.int .i64 wt,.bool line] w fun e w'=>e=.returned (.bool true)/\Below w.heap.size w w':=by
 have RS:=hide hS
 have HT:=hide hT
 have HTB:=hide ht
 have LO0:=hide (Below.refl w.heap.size w)
 obtain⟨fn,hfn⟩: ∃f:Int,(if line=true then 75 else 74)=f:=⟨_,rfl⟩
 have EF:=hide hfn
 obtain⟨T,hTT⟩: ∃T,SN.doS S 4 0 0 0 fn [(k:Int)] =T:=⟨_,rfl⟩
 have RT:=hide (hTT▸SN.IV hS 4 0 0 0 fn [(k:Int)] :SN.Ad T)
 obtain⟨er,ec,e1,e2,e3,ece⟩:=SN.erased hS line hk2 T (by rw [hfn];exact hTT)
 have ER:=hide er
 have EC:=hide ec
 have E1:=hide e1
 have E2:=hide e2
 have E3:=hide e3
 have CE:=hide ece
 have DO:=hide (fun w' v' g (hw:Below w.heap.size w w') (hb:Box w' g 3 #[.int .i64 (k:Nat)]) h=>hTT▸Mt S v' 4 fn [(k:Int)] 1 g w' hS rfl (by omega) (fun x hx=>by simp at hx;omega) (by omega) (hT.keep hw) hb h)
 have hrow:=hS.row
 have CF:=hS.col
 have hN:S.g.rows*S.g.AB<=45:=Nat.mul_le_mul hR5 hK9
 clear hT ht hfn hTT er ec e1 e2 e3 ece hS
 go_enter Tryz.func9,Tryz.ntmps9
 go_wp2_with (first | (refine Hf hk13 rfl _ rfl rfl ?_;intro gk wk hKB hbk hlk) | (refine F6 hKB rfl _ rfl rfl ?_))
 have LO1:=hide (LO0.out.trans (hbk.mono LO0.out.size))
 clear LO0 hbk
 refine(KS.out _ LO1.out).mono ?_
 rintro e wb1 ⟨v1,rfl,⟨x1,rfl,hg1⟩,hb1⟩
 have LO2:=hide (LO1.out.trans (hb1.mono LO1.out.size))
 clear LO1 hb1
 obtain⟨A1,c1,rfl⟩:=Af hg1
 have TV:=hide hg1
 clear hg1
 go_upto_region 2 with (first | (refine BG rfl rfl ?_;intro gs qg qh J5 Vk Jf Vl) | (refine AQ J5 Vk rfl _ _ rfl rfl rfl rfl ?_;intro D9 OH Jg Vm))
 have fU:w.heap.size<=gs:=by have:=LO2.out.size;omega
 have TW:=hide (TV.out.low Jf)
 have LO3:=hide (LO2.out.trans (Jf.mono LO2.out.size))
 clear TV LO2 Jf
 have OO:=hide (TW.out.kept J5 (by decide) Jg)
 have LO4:=hide (LO3.out.trans (Jg.toBelow LO3.out.size (fun k hh=>by simp at hh;omega)))
 clear TW LO3
 have Iw:=hide OH
 clear OH Jg J5 Vl
 clear Vm
 go_simp
 go_wp2_with fail
 refine(WI.out _).mono ?_
 rintro e w' ⟨rfl,rfl⟩
 go_upto_if 26 with fail
 go_cut [9] from 26 to 26 (fun u wx=>u=.int .u8 fn/\wx=D9)
 case first=>
  cases line with
  | true=>
   obtain rfl:(75:Int)=fn:=EF.out
   go_wp2_with fail
   go_meet
   exact⟨rfl,rfl⟩
  | false=>
   obtain rfl:(74:Int)=fn:=EF.out
   go_wp2_with fail
   go_meet
   exact⟨rfl,rfl⟩
 case rest=>
  obtain⟨rfl,hw⟩:=hcut
  subst hw
  rename World=>D9
  go_upto_region 6 with fail
  have hx1:Box (D9.alloc (.cells #[.int .i64 (k:Nat)] 3)) D9.heap.size 3 #[.int .i64 (k:Nat)] :=Box.new D9 3 #[.int .i64 (k:Nat)]
  have hxb:Below D9.heap.size D9 (D9.alloc (.cells #[.int .i64 (k:Nat)] 3)):=(Below.refl D9.heap.size D9).alloc (Nat.le_refl _) _
  have HX1:=hide hx1
  have HXB:=hide hxb
  clear hx1 hxb
  go_wp2_with (first | (refine AX Iw.out rfl _ rfl rfl ?_))
  refine(DO.out _ _ _ (LO4.out.trans (HXB.out.mono LO4.out.size)) HX1.out ⟨_,rfl,OO.out.low HXB.out⟩).mono ?_
  have hxb:=HXB.out
  clear HX1 HXB
  rintro e wb3 ⟨v3,rfl,⟨x3,rfl,hg3⟩,hb3⟩
  have hb4:=hxb.trans (hb3.mono hxb.size)
  clear hb3 hxb
  have Iy:=hide (Iw.out.below hb4 Iw.out.lt)
  have Ta:=hide (OO.out.low hb4)
  have LO5:=hide (LO4.out.trans (hb4.mono LO4.out.size))
  clear Iw OO LO4 hb4
  obtain⟨A3,c3,rfl⟩:=Af hg3
  have Tc:=hide hg3
  clear hg3
  go_upto_region 7 with (first | (refine BG rfl rfl ?_;intro gt uq uw JD fq Iz fu) | (refine AQ JD fq rfl _ _ rfl rfl rfl rfl ?_;intro ZW TP I4 gD))
  have IZ:gs≠gt:=by have:=Iy.out.lt;omega
  have gF:w.heap.size<=gt:=by have:=LO5.out.size;omega
  have OI:=hide (Iy.out.below Iz Iy.out.lt)
  have Te:=hide (Ta.out.low Iz)
  have Td:=hide (Tc.out.low Iz)
  have LO6:=hide (LO5.out.trans (Iz.mono LO5.out.size))
  clear Iy Ta Tc LO5 Iz
  have Gp:=hide (OI.out.kept I4 (by simp;first | exact IZ | exact Ne.symm TQ))
  have Tg:=hide (Te.out.kept JD (by decide) I4)
  have Tf:=hide (Td.out.kept JD (by decide) I4)
  have LO7:=hide (LO6.out.trans (I4.toBelow LO6.out.size (fun k hh=>by simp at hh;omega)))
  clear OI Te Td LO6
  have LP:=hide TP
  clear TP I4 JD fu
  clear gD
  go_simp
  go_cut [11] from 33 to 35 (fun u wx=>oM (PG.blank (SN.Aq S)) u wx/\Below ZW.heap.size ZW wx)
  case first=>
   go_wp2_with (first | (refine AX Gp.out rfl _ rfl rfl ?_))
   refine(IX S _ _).mono ?_
   rintro e w2 ⟨rfl,b2⟩
   go_wp2_with fail
   go_meet
   exact⟨⟨_,rfl,Box.new _ _ _⟩,b2.alloc (by have:=b2.size;omega) _⟩
  case rest=>
   obtain⟨⟨gb_,rfl,hbl⟩,hb7⟩:=hcut
   rename World=>w7
   have Ia:=hide (Gp.out.below hb7 Gp.out.lt)
   have Es:=hide (LP.out.below hb7 LP.out.lt)
   have Qw:=hide (Tg.out.low hb7)
   have Qv:=hide (Tf.out.low hb7)
   have LO8:=hide (LO7.out.trans (hb7.mono LO7.out.size))
   clear Gp LP Tg Tf LO7 hb7
   have HB1:=hide hbl
   clear hbl
   go_wp2_with fail
   go_loopw [12] (fun i wr=> ∃y:Nat,y<=S.g.rows/\i=.int .i64 (y:Nat)/\Hid (Below w7.heap.size w7 wr)) (fun i _=>S.g.rows-(intOf i).toNat)
   case atStart=>exact⟨0,Nat.zero_le _,rfl,hide (Below.refl _ _)⟩
   case round=>
    obtain⟨y,hyR,rfl,HB7⟩:=hrel
    have hb7:=HB7.out
    have Gq:=hide (Ia.out.below hb7 Ia.out.lt)
    have Gf:=hide (Es.out.below hb7 Es.out.lt)
    have HB2:=hide (HB1.out.below hb7 HB1.out.lt)
    have OQ:=hide (Qw.out.low hb7)
    have OP:=hide (Qv.out.low hb7)
    have LO9:=hide (LO8.out.trans (hb7.mono LO8.out.size))
    clear Ia Es HB1 Qw Qv LO8 hb7
    have E9:=(show _=some (.int .i64 (S.g.rows:Nat):Value) from Gq.out.c0)
    have hbr:=HB7.out
    by_cases hy:y<S.g.rows
    ·go_wp2_with fail
     clear E9
     clear hbr
     go_loopw [13] (fun i wx=> ∃x:Nat,x<=S.g.AB/\i=.int .i64 (x:Nat)/\Hid (Below wr.heap.size wr wx)) (fun i _=>S.g.AB-(intOf i).toNat)
     case atStart=>exact⟨0,Nat.zero_le _,rfl,hide (Below.refl _ _)⟩
     case round=>
      obtain⟨x,hxC,rfl,HB8⟩:=hrel
      rename World=>wx
      have hb8:=HB8.out
      have Ib:=hide (Gq.out.below hb8 Gq.out.lt)
      have L6:=hide (Gf.out.below hb8 Gf.out.lt)
      have HB3:=hide (HB2.out.below hb8 HB2.out.lt)
      have OT:=hide (OQ.out.low hb8)
      have Om:=hide (OP.out.low hb8)
      have I5:=hide (LO9.out.trans (hb8.mono LO9.out.size))
      clear Gq Gf HB2 OQ OP LO9 hb8
      have Fa:=(show _=some (.int .i64 (S.g.AB:Nat):Value) from Ib.out.c1)
      have Gg:=(show _=some (.int .i64 (S.row:Nat):Value) from Ib.out.c3)
      have Gh:=(show _=some (.int .i64 (S.col:Nat):Value) from Ib.out.c4)
      by_cases hx:x<S.g.AB
      ·go_upto_region 14 with fail
       obtain⟨be,hbe⟩: ∃b,decide (S.row<y\/(y=S.row/\S.col<=x))=b:=⟨_,rfl⟩
       have Hbe:=hide hbe
       clear hbe
       go_cut [14] from 50 to 65 (fun u wy=>u=.bool be/\wy=wx)
       case first=>
        rcases(show(S.row<y)\/(y<=S.row/\S.row<=y/\S.col<=x)\/(y<=S.row/\S.row<=y/\x<S.col)\/(y<S.row) by omega) with q0 | ⟨q0,q1,q2⟩ | ⟨q0,q1,q2⟩ | q0
        ·obtain rfl:true=be:=by rw [<- Hbe.out];exact(decide_eq_true (by omega)).symm
         go_wp2_with fail
         go_meet
         first | exact⟨rfl,rfl⟩ | exact⟨congrArg Value.bool (decide_eq_true (by omega)),rfl⟩ | exact⟨congrArg Value.bool (by simp;omega),rfl⟩
        ·have c1:((y:Int)==(S.row:Int))=true:=by simp;omega
         obtain rfl:true=be:=by rw [<- Hbe.out];exact(decide_eq_true (by omega)).symm
         go_wp2_with fail
         go_meet
         first | exact⟨rfl,rfl⟩ | exact⟨congrArg Value.bool (decide_eq_true (by omega)),rfl⟩ | exact⟨congrArg Value.bool (by simp;omega),rfl⟩
        ·have c1:((y:Int)==(S.row:Int))=true:=by simp;omega
         obtain rfl:false=be:=by rw [<- Hbe.out];exact(decide_eq_false (by omega)).symm
         go_wp2_with fail
         go_meet
         first | exact⟨rfl,rfl⟩ | exact⟨congrArg Value.bool (decide_eq_false (by omega)),rfl⟩ | exact⟨congrArg Value.bool (by simp;omega),rfl⟩
        ·have c1:((y:Int)==(S.row:Int))=false:=by simp;omega
         obtain rfl:false=be:=by rw [<- Hbe.out];exact(decide_eq_false (by omega)).symm
         go_wp2_with fail
         go_meet
         first | exact⟨rfl,rfl⟩ | exact⟨congrArg Value.bool (decide_eq_false (by omega)),rfl⟩ | exact⟨congrArg Value.bool (by simp;omega),rfl⟩
       case rest=>
        obtain⟨rfl,hw⟩:=hcut
        subst hw
        rename World=>wx
        go_upto_region 15 with fail
        obtain⟨ah,hah⟩: ∃b,decide (y<S.row\/(y=S.row/\x<=S.col))=b:=⟨_,rfl⟩
        have Hah:=hide hah
        clear hah
        go_cut [15] from 66 to 81 (fun u wy=>u=.bool ah/\wy=wx)
        case first=>
         rcases(show(y<S.row)\/(y<=S.row/\S.row<=y/\x<=S.col)\/(y<=S.row/\S.row<=y/\S.col<x)\/(S.row<y) by omega) with q0 | ⟨q0,q1,q2⟩ | ⟨q0,q1,q2⟩ | q0
         ·obtain rfl:true=ah:=by rw [<- Hah.out];exact(decide_eq_true (by omega)).symm
          go_wp2_with fail
          go_meet
          first | exact⟨rfl,rfl⟩ | exact⟨congrArg Value.bool (decide_eq_true (by omega)),rfl⟩ | exact⟨congrArg Value.bool (by simp;omega),rfl⟩
         ·have c1:((y:Int)==(S.row:Int))=true:=by simp;omega
          obtain rfl:true=ah:=by rw [<- Hah.out];exact(decide_eq_true (by omega)).symm
          go_wp2_with fail
          go_meet
          first | exact⟨rfl,rfl⟩ | exact⟨congrArg Value.bool (decide_eq_true (by omega)),rfl⟩ | exact⟨congrArg Value.bool (by simp;omega),rfl⟩
         ·have c1:((y:Int)==(S.row:Int))=true:=by simp;omega
          obtain rfl:false=ah:=by rw [<- Hah.out];exact(decide_eq_false (by omega)).symm
          go_wp2_with fail
          go_meet
          first | exact⟨rfl,rfl⟩ | exact⟨congrArg Value.bool (decide_eq_false (by omega)),rfl⟩ | exact⟨congrArg Value.bool (by simp;omega),rfl⟩
         ·have c1:((y:Int)==(S.row:Int))=false:=by simp;omega
          obtain rfl:false=ah:=by rw [<- Hah.out];exact(decide_eq_false (by omega)).symm
          go_wp2_with fail
          go_meet
          first | exact⟨rfl,rfl⟩ | exact⟨congrArg Value.bool (decide_eq_false (by omega)),rfl⟩ | exact⟨congrArg Value.bool (by simp;omega),rfl⟩
        case rest=>
         obtain⟨rfl,hw⟩:=hcut
         subst hw
         rename World=>wx
         go_upto_region 16 with fail
         obtain⟨gn,hgn⟩: ∃b,decide (PG.Gone (!line) S.row S.col k y x)=b:=⟨_,rfl⟩
         have Hgn:=hide hgn
         clear hgn
         go_cut [16] from 82 to 107 (fun u wy=>u=.bool gn/\wy=wx)
         case first=>
          have hbe:=Hbe.out
          have hah:=Hah.out
          cases be<;>cases ah<;>simp only [decide_eq_true_eq,decide_eq_false_iff_not] at hbe hah
          all_goals
           have mY:=hide hbe
           have mZ:=hide hah
           clear hbe hah
           obtain rfl | rfl | rfl:k=0\/k=1\/k=2:=by omega
           all_goals
            by_cases hyr:y=S.row
            ·have c1:((y:Int)==(S.row:Int))=true:=by simp;omega
             have HYR:=hide hyr
             clear hyr
             cases line with
             | true=>
              go_wp2_with fail
              go_meet
              refine⟨congrArg Value.bool ?_,rfl⟩
              have h1:=mY.out
              have h2:=mZ.out
              have h3:=HYR.out
              rw [<- Hgn.out]
              refine Eq.symm ?_
              first | exact decide_eq_true (by unfold PG.Gone;simp;omega) | exact decide_eq_false (by unfold PG.Gone;simp;omega) | exact decide_eq_true (by unfold PG.Gone;simp) | trace_state
             | false=>
              go_wp2_with fail
              go_meet
              refine⟨congrArg Value.bool ?_,rfl⟩
              have h1:=mY.out
              have h2:=mZ.out
              have h3:=HYR.out
              rw [<- Hgn.out]
              refine Eq.symm ?_
              first | exact decide_eq_true (by unfold PG.Gone;simp;omega) | exact decide_eq_false (by unfold PG.Gone;simp;omega) | exact decide_eq_true (by unfold PG.Gone;simp) | trace_state
            ·have c1:((y:Int)==(S.row:Int))=false:=by simp;omega
             have HYR:=hide hyr
             clear hyr
             cases line with
             | true=>
              go_wp2_with fail
              go_meet
              refine⟨congrArg Value.bool ?_,rfl⟩
              have h1:=mY.out
              have h2:=mZ.out
              have h3:=HYR.out
              rw [<- Hgn.out]
              refine Eq.symm ?_
              first | exact decide_eq_true (by unfold PG.Gone;simp;omega) | exact decide_eq_false (by unfold PG.Gone;simp;omega) | exact decide_eq_true (by unfold PG.Gone;simp) | trace_state
             | false=>
              go_wp2_with fail
              go_meet
              refine⟨congrArg Value.bool ?_,rfl⟩
              have h1:=mY.out
              have h2:=mZ.out
              have h3:=HYR.out
              rw [<- Hgn.out]
              refine Eq.symm ?_
              first | exact decide_eq_true (by unfold PG.Gone;simp;omega) | exact decide_eq_false (by unfold PG.Gone;simp;omega) | exact decide_eq_true (by unfold PG.Gone;simp) | trace_state
         case rest=>
          obtain⟨rfl,hw⟩:=hcut
          subst hw
          rename World=>wx
          clear Fa Gg Gh
          obtain⟨F1,hF1⟩: ∃F,S.g.f y x=F:=⟨_,rfl⟩
          obtain⟨F2,hF2⟩: ∃F,T.g.f y x=F:=⟨_,rfl⟩
          have hce:=CE.out y x hy hx
          rw [hF1,hF2] at hce
          have HCE:=hide hce
          have HF1:=hide hF1
          have HF2:=hide hF2
          clear hce hF1 hF2
          go_upto_region 17 with fail
          have E9:=(show _=some (.int .i64 (S.g.rows:Nat):Value) from Ib.out.c0)
          have Fa:=(show _=some (.int .i64 (S.g.AB:Nat):Value) from Ib.out.c1)
          have Lv:=(show _=some (.slice A1 (S.g.rows*S.g.AB) c1:Value) from Ib.out.c2)
          go_cut [17,18] from 108 to 115 (fun u v wy=>(oM F1 u wy/\v=.bool true)/\Below wx.heap.size wx wy)
          case first=>
           go_wp2_with fail
           refine(nE RS.out.g OT.out y x (by omega) (by omega) HF1.out).mono ?_
           rintro e w2 ⟨rfl,b2⟩
           clear E9 Fa Lv
           go_wp2_with fail
           go_meet
           exact⟨⟨⟨_,rfl,Box.new _ _ _⟩,rfl⟩,b2.alloc (by have:=b2.size;omega) _⟩
          case rest=>
           obtain⟨⟨⟨gF1,rfl,wG⟩,rfl⟩,hb17⟩:=hcut
           clear E9 Fa Lv
           rename World=>wx
           have gq:=hide (HB8.out.trans (hb17.mono HB8.out.size))
           clear HB8
           have Kg:=hide (Ib.out.below hb17 Ib.out.lt)
           have Ie:=hide (L6.out.below hb17 L6.out.lt)
           have HB4:=hide (HB3.out.below hb17 HB3.out.lt)
           have KC:=hide (OT.out.low hb17)
           have L9:=hide (Om.out.low hb17)
           have Ic:=hide (I5.out.trans (hb17.mono I5.out.size))
           clear Ib L6 HB3 OT Om I5 hb17
           have gy:=hide wG
           clear wG
           go_upto_region 18 with fail
           have Lx:=(show _=some (.int .i64 (T.g.rows:Nat):Value) from Ie.out.c0)
           have Qs:=(show _=some (.int .i64 (T.g.AB:Nat):Value) from Ie.out.c1)
           have Qt:=(show _=some (.slice A3 (T.g.rows*T.g.AB) c3:Value) from Ie.out.c2)
           go_cut [19,20] from 116 to 123 (fun u v wy=>(oM F2 u wy/\v=.bool true)/\Below wx.heap.size wx wy)
           case first=>
            go_wp2_with fail
            refine(nE RT.out.g L9.out y x (by rw [ER.out];omega) (by rw [EC.out];omega) HF2.out).mono ?_
            rintro e w2 ⟨rfl,b2⟩
            clear Lx Qs Qt
            go_wp2_with fail
            go_meet
            exact⟨⟨⟨_,rfl,Box.new _ _ _⟩,rfl⟩,b2.alloc (by have:=b2.size;omega) _⟩
           case rest=>
            obtain⟨⟨⟨gF2,rfl,wH⟩,rfl⟩,hb18⟩:=hcut
            clear Lx Qs Qt
            rename World=>wx
            have wI:=hide (gq.out.trans (hb18.mono gq.out.size))
            clear gq
            have LU:=hide (Kg.out.below hb18 Kg.out.lt)
            have LQ:=hide (Ie.out.below hb18 Ie.out.lt)
            have HB5:=hide (HB4.out.below hb18 HB4.out.lt)
            have QE:=hide (gy.out.below hb18 gy.out.lt)
            have LW:=hide (KC.out.low hb18)
            have Qx:=hide (L9.out.low hb18)
            have Kh:=hide (Ic.out.trans (hb18.mono Ic.out.size))
            clear Kg Ie HB4 gy KC L9 Ic hb18
            have Jj:=hide wH
            clear wH
            have Gg:=(show _=some (.int .i64 (S.row:Nat):Value) from LU.out.c3)
            have Gh:=(show _=some (.int .i64 (S.col:Nat):Value) from LU.out.c4)
            go_upto_region 19 with fail
            obtain⟨nr,hnr⟩: ∃b,decide (PG.OL S.row S.col y x)=b:=⟨_,rfl⟩
            have Hnr:=hide hnr
            clear hnr
            go_cut [21] from 124 to 141 (fun u wy=>u=.bool nr/\wy=wx)
            case first=>
             by_cases hyr:y=S.row
             ·have c1:((y:Int)==(S.row:Int))=true:=by simp;omega
              by_cases hl:x+1=S.col
              ·have c2:((x:Int)==(S.col:Int)-1)=true:=by simp;omega
               obtain rfl:true=nr:=by rw [<- Hnr.out];exact(decide_eq_true (by unfold PG.OL;omega)).symm
               clear hyr hl
               go_wp2_with fail
               go_meet
               first | exact⟨rfl,rfl⟩ | exact⟨congrArg Value.bool c2,rfl⟩ | exact⟨congrArg Value.bool c3,rfl⟩ | exact⟨congrArg Value.bool (by first | simpa using c2 | simpa using c3),rfl⟩ | exact⟨congrArg Value.bool (decide_eq_true (by omega)),rfl⟩ | exact⟨congrArg Value.bool (decide_eq_false (by omega)),rfl⟩
              ·by_cases hr:x=S.col+1
               ·have c2:((x:Int)==(S.col:Int)-1)=false:=by simp;omega
                have c3:((x:Int)==(S.col:Int)+1)=true:=by simp;omega
                obtain rfl:true=nr:=by rw [<- Hnr.out];exact(decide_eq_true (by unfold PG.OL;omega)).symm
                clear hyr hl hr
                go_wp2_with fail
                go_meet
                first | exact⟨rfl,rfl⟩ | exact⟨congrArg Value.bool c2,rfl⟩ | exact⟨congrArg Value.bool c3,rfl⟩ | exact⟨congrArg Value.bool (by first | simpa using c2 | simpa using c3),rfl⟩ | exact⟨congrArg Value.bool (decide_eq_true (by omega)),rfl⟩ | exact⟨congrArg Value.bool (decide_eq_false (by omega)),rfl⟩
               ·have c2:((x:Int)==(S.col:Int)-1)=false:=by simp;omega
                have c3:((x:Int)==(S.col:Int)+1)=false:=by simp;omega
                obtain rfl:false=nr:=by rw [<- Hnr.out];exact(decide_eq_false (by unfold PG.OL;omega)).symm
                clear hyr hl hr
                go_wp2_with fail
                go_meet
                first | exact⟨rfl,rfl⟩ | exact⟨congrArg Value.bool c2,rfl⟩ | exact⟨congrArg Value.bool c3,rfl⟩ | exact⟨congrArg Value.bool (by first | simpa using c2 | simpa using c3),rfl⟩ | exact⟨congrArg Value.bool (decide_eq_true (by omega)),rfl⟩ | exact⟨congrArg Value.bool (decide_eq_false (by omega)),rfl⟩
             ·have c1:((y:Int)==(S.row:Int))=false:=by simp;omega
              obtain rfl:false=nr:=by rw [<- Hnr.out];exact(decide_eq_false (by unfold PG.OL;omega)).symm
              clear hyr
              go_wp2_with fail
              go_meet
              first | exact⟨rfl,rfl⟩ | exact⟨congrArg Value.bool c2,rfl⟩ | exact⟨congrArg Value.bool c3,rfl⟩ | exact⟨congrArg Value.bool (by first | simpa using c2 | simpa using c3),rfl⟩ | exact⟨congrArg Value.bool (decide_eq_true (by omega)),rfl⟩ | exact⟨congrArg Value.bool (decide_eq_false (by omega)),rfl⟩
            case rest=>
             obtain⟨rfl,hw⟩:=hcut
             subst hw
             rename World=>wx
             clear Gg Gh
             go_upto_region 20 with fail
             go_cut [164] from 142 to 164 (fun u wy=>u=.bool false/\wy=wx)
             case first=>
              cases gn with
              | true=>
               obtain rfl:=HCE.out.1 (of_decide_eq_true Hgn.out)
               have y0:=(show _=some (.int .i32 (PG.rn (PG.blank (SN.Aq S))):Value) from Jj.out.cell 0)
               have y1:=(show _=some (.int .i64 (PG.kd (PG.blank (SN.Aq S))):Value) from Jj.out.cell 1)
               have y2:=(show _=some (.int .i64 (PG.pn (PG.blank (SN.Aq S))).1:Value) from Jj.out.cell 2)
               have y3:=(show _=some (.int .i64 (PG.pn (PG.blank (SN.Aq S))).2.1:Value) from Jj.out.cell 3)
               have y4:=(show _=some (.int .i64 (PG.pn (PG.blank (SN.Aq S))).2.2:Value) from Jj.out.cell 4)
               have z0:=(show _=some (.int .i32 (PG.rn (PG.blank (SN.Aq S))):Value) from HB5.out.cell 0)
               have z1:=(show _=some (.int .i64 (PG.kd (PG.blank (SN.Aq S))):Value) from HB5.out.cell 1)
               have z2:=(show _=some (.int .i64 (PG.pn (PG.blank (SN.Aq S))).1:Value) from HB5.out.cell 2)
               have z3:=(show _=some (.int .i64 (PG.pn (PG.blank (SN.Aq S))).2.1:Value) from HB5.out.cell 3)
               have z4:=(show _=some (.int .i64 (PG.pn (PG.blank (SN.Aq S))).2.2:Value) from HB5.out.cell 4)
               go_wp2_with fail
               go_meet
               first | exact⟨rfl,rfl⟩ | exact⟨congrArg Value.bool (by simp),rfl⟩
              | false=>
               cases nr with
               | true=>
                go_wp2_with fail
                go_meet
                exact⟨rfl,rfl⟩
               | false=>
                obtain rfl:=HCE.out.2 (of_decide_eq_false Hgn.out) (of_decide_eq_false Hnr.out)
                have y0:=(show _=some (.int .i32 (PG.rn F2):Value) from Jj.out.cell 0)
                have y1:=(show _=some (.int .i64 (PG.kd F2):Value) from Jj.out.cell 1)
                have y2:=(show _=some (.int .i64 (PG.pn F2).1:Value) from Jj.out.cell 2)
                have y3:=(show _=some (.int .i64 (PG.pn F2).2.1:Value) from Jj.out.cell 3)
                have y4:=(show _=some (.int .i64 (PG.pn F2).2.2:Value) from Jj.out.cell 4)
                have z0:=(show _=some (.int .i32 (PG.rn F2):Value) from QE.out.cell 0)
                have z1:=(show _=some (.int .i64 (PG.kd F2):Value) from QE.out.cell 1)
                have z2:=(show _=some (.int .i64 (PG.pn F2).1:Value) from QE.out.cell 2)
                have z3:=(show _=some (.int .i64 (PG.pn F2).2.1:Value) from QE.out.cell 3)
                have z4:=(show _=some (.int .i64 (PG.pn F2).2.2:Value) from QE.out.cell 4)
                go_wp2_with fail
                go_meet
                first | exact⟨rfl,rfl⟩ | exact⟨congrArg Value.bool (by simp),rfl⟩
             case rest=>
              obtain⟨rfl,hw⟩:=hcut
              subst hw
              rename World=>wx
              clear Hbe Hah Hgn Hnr HCE HF1 HF2 QE Jj
              go_wp2_with fail
              go_roundw
              case rel=>exact⟨x+1,by omega,by go_num,wI⟩
              case measure=>simp [intOf];omega
      ·go_wp2_with fail
       go_roundw
       case rel=>exact⟨y+1,by omega,by go_num,hide (HB7.out.trans (HB8.out.mono HB7.out.size))⟩
       case measure=>simp [intOf];omega
    ·clear hbr
     have Gg:=(show _=some (.int .i64 (S.row:Nat):Value) from Gq.out.c3)
     have Gh:=(show _=some (.int .i64 (S.col:Nat):Value) from Gq.out.c4)
     have L8:=(show _=some (.int .i64 (S.row:Nat):Value) from(Gf.out.c3).trans (by first | (rw [E1.out];done) | (rw [E1.out];rfl)))
     have Vv:=(show _=some (.int .i64 (S.col:Nat):Value) from(Gf.out.c4).trans (by first | (rw [E2.out];done) | (rw [E2.out];rfl)))
     have Vq:=(show _=some (.bool false:Value) from(Gf.out.c5).trans (by first | (rw [E3.out];done) | (rw [E3.out];rfl)))
     go_wp2_with fail
     clear E9 Gg Gh L8 Vv Vq
     refine(Er _ (HT.out.keep LO9.out) (HTB.out.keep LO9.out)).mono ?_
     rintro e wq5 ⟨rfl,hq5⟩
     have Ib:=hide (Gq.out.below hq5 Gq.out.lt)
     have L6:=hide (Gf.out.below hq5 Gf.out.lt)
     have HB3:=hide (HB2.out.below hq5 HB2.out.lt)
     have OT:=hide (OQ.out.low hq5)
     have Om:=hide (OP.out.low hq5)
     have I5:=hide (LO9.out.trans (hq5.mono LO9.out.size))
     clear Gq Gf HB2 OQ OP LO9 hq5
     go_wp2_with fail
     go_ret
     exact⟨rfl,I5.out⟩
end Go.Proofs.YteecohpaecgdlaaGreatDoor
namespace Go.Proofs.YteecohpaecgdlaaGreatDoor
open Go.RowKit
theorem MB (rw cl:Int) (Ap:Option Addr) (np cp:Nat) (lp:List Int) (At:Option Addr) (nt ct:Nat) (lt:List Int) (a b c d e p q r u n1:Int) (b1:Bool) (w:World)
  (hr:(Lit.int .i64 rw).wf=true) (hc:(Lit.int .i64 cl).wf=true) (hp:Arg .i64 w Ap np cp lp) (ht:Arg .i64 w At nt ct lt) (ha:(Lit.int .i64 a).wf=true) (hb:(Lit.int .i64 b).wf=true) (hc':(Lit.int .i64 c).wf=true) (hd:(Lit.int .i64 d).wf=true) (he:(Lit.int .i64 e).wf=true)
  (hp0:(Lit.int .i64 p).wf=true) (hp1:(Lit.int .i64 q).wf=true) (hp2:(Lit.int .i64 r).wf=true) (hu:(Lit.int .u64 u).wf=true) (gZ:(Lit.int .i64 n1).wf=true) (h1:DZ w) (h2:FR w) (h3:JY w) (h4:Cw w) (h5:Ez w):
  Calls Tryz.prog 9 #[.agg #[.int .i64 rw,.int .i64 cl,.slice Ap np cp,.slice At nt ct,.int .i64 a,.int .i64 b,.int .i64 c,.int .i64 d,.int .i64 e,.int .i64 p,.int .i64 q,.int .i64 r,.int .u64 u],.int .i64 n1,.bool b1] w fun e w'=>e=.returned (.bool true)/\Below w.heap.size w w':=by
 obtain⟨S,hS,hR5,hK9,KS⟩:=Ke rw cl Ap np cp lp At nt ct lt a b c d e p q r u w hr hc hp ht ha hb hc' hd he hp0 hp1 hp2 hu
 obtain⟨k,hk⟩: ∃k:Nat,0+n1%(2-0+1)=(k:Int):=⟨(0+n1%(2-0+1)).toNat,by omega⟩
 have bn:=bounds_i64 gZ
 exact OZ _ n1 k b1 S w rfl hS hR5 hK9 ⟨h1,h2,h3,h4⟩ h5 (by omega) KS
  (hide fun w'=>BU n1 0 2 _ hk w' bn.1 bn.2 (by omega) (by omega) (by omega))
end Go.Proofs.YteecohpaecgdlaaGreatDoor
