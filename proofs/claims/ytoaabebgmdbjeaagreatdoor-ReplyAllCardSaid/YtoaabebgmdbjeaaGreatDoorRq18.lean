/- A part of the proof: ModesUse, PenSpec, CharsetSpec, SourceSpec, EventSpec, CharsetTab, RefPen10, CellPack, PenFun. -/
import Derived.Test.YtoaabebgmdbjeaaGreatDoorRq17
set_option maxRecDepth 100000
set_option maxHeartbeats 16000000
set_option linter.unusedVariables false
namespace Go.Proofs.YtoaabebgmdbjeaaGreatDoor
open Go Go.RowKit
def Dw:Array Value:= #[.int .i64 1,.int .i64 6,.int .i64 7,.int .i64 25]
def IW (w:World):Prop:= ∃t,w.heap[3]? =some (.cells Dw t (0,0))
theorem IW.lt {w:World} (h:IW w):3<w.heap.size:=by
 obtain⟨t,h⟩:=h
 exact(Array.getElem?_eq_some_iff.1 h).1
theorem IW.below {w w':World} {B:Nat} (h:IW w) (hb:Below B w w') (hB:3<B):IW w':=by
 obtain⟨t,h⟩:=h
 exact⟨t,(hb.block _ hB).trans h⟩
theorem IW.keep {w w':World} (h:IW w) (hb:Below w.heap.size w w'):IW w':=h.below hb h.lt
theorem jY:Tryz.prog.globalNamed "linguist/modes.known" =some 3:=by kernel_rfl
theorem jZ:(Tryz.prog.globals[3]?).map (·.type)=some 191:=by kernel_rfl
theorem Tq:tiled Tryz.prog 4 191=true:=by kernel_rfl
theorem XB:flat (H:=Unit) Rows.laid_linguist_modes_known=some Dw.toList:=by rfl
theorem Tt {w:World} {l:List (String × DataW Unit)} (h:laidMet Tryz.prog l w) (hm:("linguist/modes.known",Rows.laid_linguist_modes_known)∈l):IW w:=by
 obtain⟨t,ht⟩:=DV 4 jY jZ Tq XB (by simp [Dw]) h hm
 exact⟨t,by simpa using ht⟩
theorem mW (w:World):(Instr.index 191 (.agg Dw) (.int .i64 0)).run Tryz.prog w=.ok (.int .i64 1) w:=by kernel_rfl
theorem mX (w:World):(Instr.index 191 (.agg Dw) (.int .i64 1)).run Tryz.prog w=.ok (.int .i64 6) w:=by kernel_rfl
theorem mY (w:World):(Instr.index 191 (.agg Dw) (.int .i64 2)).run Tryz.prog w=.ok (.int .i64 7) w:=by kernel_rfl
theorem mZ (w:World):(Instr.index 191 (.agg Dw) (.int .i64 3)).run Tryz.prog w=.ok (.int .i64 25) w:=by kernel_rfl
theorem Tv:(Tryz.prog.info? 191).map (·.size)=some Dw.size:=by kernel_rfl
def Ku (n:Int) (k:Nat):Prop:= ∀j:Nat,j<k->(([1,6,7,25] :List Int).getD j 0)≠n
theorem Ku.next {n:Int} {k:Nat} (h:Ku n k) (hk:(([1,6,7,25] :List Int).getD k 0)≠n):Ku n (k+1):=fun j hj=>by
 by_cases e:j=k
 ·subst e
  exact hk
 ·exact h j (by omega)
theorem Ku.none {n:Int} (h:Ku n 4): ¬SN.D8 n:=fun hm=>by
 rcases hm with rfl | rfl | rfl | rfl
 ·exact h 0 (by omega) rfl
 ·exact h 1 (by omega) rfl
 ·exact h 2 (by omega) rfl
 ·exact h 3 (by omega) rfl
theorem XC (n:Int) (w:World) (hT:IW w):Calls Tryz.prog 158 #[.int .i64 n] w fun e w'=>e=.returned (.bool (decide (SN.D8 n)))/\Below w.heap.size w w':=by
 have HY:=hide (fun (b:Bool) (h:b=true->SN.D8 n) (h':b=false-> ¬SN.D8 n)=>(show Ending.returned (.bool b)=.returned (.bool (decide (SN.D8 n))) from by
  cases b
  ·rw [decide_eq_false (h' rfl)]
  ·rw [decide_eq_true (h rfl)]))
 obtain⟨tt,hg⟩:=hT
 have lt:3<w.heap.size:=(Array.getElem?_eq_some_iff.1 hg).1
 have i0:=mW
 have i1:=mX
 have i2:=mY
 have i3:=mZ
 have hsz:Dw.size=4:=rfl
 generalize hcs:Dw=cs at hg hsz i0 i1 i2 i3
 have J5:(Tryz.prog.info? 191).map (·.size)=some cs.size:=by rw [<- hcs];exact Tv
 have SC:=hide J5
 clear hcs hsz J5
 go_enter Tryz.func158,Tryz.ntmps158
 go_wp2_with (refine wpList_load_row rfl 191 _ rfl 3 rfl tt cs (0,0) _ hg Tryz.underlying191 rfl SC.out ?_)
 go_loopw [6] (fun i wr=> ∃k:Nat,k<=4/\i=.int .i64 k/\Ku n k/\Below w.heap.size w wr) (fun i _=>4-(intOf i).toNat)
 case atStart=>exact⟨0,by omega,rfl,fun j hj=>absurd hj (by omega),Below.refl _ _⟩
 case round=>
  obtain⟨k,hk,rfl,hf,hbel⟩:=hrel
  have hsz:=hbel.size
  have HF:=hide hf
  clear hf
  obtain hlt | rfl:k<4\/k=4:=by omega
  ·obtain rfl | rfl | rfl | rfl:k=0\/k=1\/k=2\/k=3:=by omega
   ·by_cases ha:n=1
    ·subst ha
     go_wp2
     go_ret
     exact⟨HY.out true (fun _=>by unfold SN.D8;omega) (fun h=>by cases h),hbel⟩
    ·have eq:((1:Int)==n)=false:=by simp;omega
     go_wp2
     go_roundw
     case rel=>exact⟨1,by omega,by go_num,HF.out.next (show(1:Int)≠n by omega),hbel⟩
     case measure=>simp [intOf]
   ·by_cases ha:n=6
    ·subst ha
     go_wp2
     go_ret
     exact⟨HY.out true (fun _=>by unfold SN.D8;omega) (fun h=>by cases h),hbel⟩
    ·have eq:((6:Int)==n)=false:=by simp;omega
     go_wp2
     go_roundw
     case rel=>exact⟨2,by omega,by go_num,HF.out.next (show(6:Int)≠n by omega),hbel⟩
     case measure=>simp [intOf]
   ·by_cases ha:n=7
    ·subst ha
     go_wp2
     go_ret
     exact⟨HY.out true (fun _=>by unfold SN.D8;omega) (fun h=>by cases h),hbel⟩
    ·have eq:((7:Int)==n)=false:=by simp;omega
     go_wp2
     go_roundw
     case rel=>exact⟨3,by omega,by go_num,HF.out.next (show(7:Int)≠n by omega),hbel⟩
     case measure=>simp [intOf]
   ·by_cases ha:n=25
    ·subst ha
     go_wp2
     go_ret
     exact⟨HY.out true (fun _=>by unfold SN.D8;omega) (fun h=>by cases h),hbel⟩
    ·have eq:((25:Int)==n)=false:=by simp;omega
     go_wp2
     go_roundw
     case rel=>exact⟨4,by omega,by go_num,HF.out.next (show(25:Int)≠n by omega),hbel⟩
     case measure=>simp [intOf]
  ·go_wp2
   go_ret
   exact⟨HY.out false (fun h=>by cases h) (fun _=>HF.out.none),hbel⟩
theorem jc (s:SN.Sc) (v:Value) (on:Bool) (w:World) (hs:SN.Ad s) (h:IsS w s v):Calls Tryz.prog 173 #[v,.int .i64 1,.bool on] w (Az w (SN.Gn s 1 on)):=by
 have RT:=SN.GI hs 1 on
 obtain⟨x,rfl,hg⟩:=h
 obtain⟨A,cp,rfl⟩:=Af hg
 have hgr:=hs.g.2.1
 have hgc:=hs.g.2.2.2.1
 have hR1:=hs.g.1
 have hK1:=hs.g.2.2.1
 have HG:=hide hg
 have AT:=hide (fun w' v' h=>(show Calls Tryz.prog 14 #[v'] w' (Az w' (s.u18 on)) from FE _ v' RT w' h))
 clear RT hg hs
 go_enter Tryz.func173,Tryz.ntmps173
 go_upto_region 1 with (refine BX HG _ rfl rfl rfl rfl rfl ?_;intro g gR w2 csR hsR HB2 HW2 HR2 HG2 hne hg1 Aj)
 clear HG
 have k18:=HB2.out.c18
 have z18:=HB2.out.fz 18
 go_upto_region 12 with fail
 have HB3:=hide (HB2.out.iI on)
 obtain⟨HR3,HW3,HG3⟩:=EI 18 (.bool on) HB2 HR2 HW2 HG2 hne hg1
 generalize (w2.setCell ⟨g,18,none⟩ (.bool on))=w3 at HB3 HR3 HW3 HG3⊢
 clear k18 z18 HB2 HR2 HW2 HG2
 go_wp2_with (refine AU HB3.out rfl _ rfl rfl ?_)
 refine(AT.out _ _ ⟨_,rfl,HG3.out⟩).mono (Au HR3 HW3 fun A7 c7 w7 HR7 HW7 HG7=>?_)
 clear HB3 HR3 HW3 HG3
 go_wp2_with (refine AQ HR7.out hsR rfl _ _ rfl rfl rfl rfl ?_;intro w8 hB8 hk8 hs8)
 exact BU rfl rfl rfl hB8 HG7 HR7 HW7 hk8 Aj
theorem eG (s:SN.Sc) (v:Value) (on:Bool) (w:World) (hs:SN.Ad s) (h:IsS w s v):Calls Tryz.prog 173 #[v,.int .i64 25,.bool on] w (Az w (SN.Gn s 25 on)):=by
 have RT:=SN.GI hs 25 on
 obtain⟨x,rfl,hg⟩:=h
 obtain⟨A,cp,rfl⟩:=Af hg
 have hgr:=hs.g.2.1
 have hgc:=hs.g.2.2.2.1
 have hR1:=hs.g.1
 have hK1:=hs.g.2.2.1
 have HG:=hide hg
 have AT:=hide (fun w' v' h=>(show Calls Tryz.prog 14 #[v'] w' (Az w' (s.u17 on)) from FE _ v' RT w' h))
 clear RT hg hs
 go_enter Tryz.func173,Tryz.ntmps173
 go_upto_region 1 with (refine BX HG _ rfl rfl rfl rfl rfl ?_;intro g gR w2 csR hsR HB2 HW2 HR2 HG2 hne hg1 Aj)
 clear HG
 have k17:=HB2.out.c17
 have z17:=HB2.out.fz 17
 go_upto_region 12 with fail
 have HB3:=hide (HB2.out.iH on)
 obtain⟨HR3,HW3,HG3⟩:=EI 17 (.bool on) HB2 HR2 HW2 HG2 hne hg1
 generalize (w2.setCell ⟨g,17,none⟩ (.bool on))=w3 at HB3 HR3 HW3 HG3⊢
 clear k17 z17 HB2 HR2 HW2 HG2
 go_wp2_with (refine AU HB3.out rfl _ rfl rfl ?_)
 refine(AT.out _ _ ⟨_,rfl,HG3.out⟩).mono (Au HR3 HW3 fun A7 c7 w7 HR7 HW7 HG7=>?_)
 clear HB3 HR3 HW3 HG3
 go_wp2_with (refine AQ HR7.out hsR rfl _ _ rfl rfl rfl rfl ?_;intro w8 hB8 hk8 hs8)
 exact BU rfl rfl rfl hB8 HG7 HR7 HW7 hk8 Aj
theorem jd (s:SN.Sc) (v:Value) (on:Bool) (w:World) (hs:SN.Ad s) (h:IsS w s v):Calls Tryz.prog 173 #[v,.int .i64 6,.bool on] w (Az w (SN.Gn s 6 on)):=by
 have RT:=SN.GI hs 6 on
 obtain⟨x,rfl,hg⟩:=h
 obtain⟨A,cp,rfl⟩:=Af hg
 have hgr:=hs.g.2.1
 have hgc:=hs.g.2.2.2.1
 have hR1:=hs.g.1
 have hK1:=hs.g.2.2.1
 have HG:=hide hg
 have AT:=hide (fun w' v' h=>(show Calls Tryz.prog 201 #[v'] w' (Az w' (SN.Gn s 6 on)) from RQ (s.u16 on) v' w' (SN.OU hs on) h))
 clear RT hg hs
 go_enter Tryz.func173,Tryz.ntmps173
 go_upto_region 1 with (refine BX HG _ rfl rfl rfl rfl rfl ?_;intro g gR w2 csR hsR HB2 HW2 HR2 HG2 hne hg1 Aj)
 clear HG
 have k16:=HB2.out.c16
 have z16:=HB2.out.fz 16
 go_upto_region 6 with fail
 have HB3:=hide (HB2.out.Yw on)
 obtain⟨HR3,HW3,HG3⟩:=EI 16 (.bool on) HB2 HR2 HW2 HG2 hne hg1
 generalize (w2.setCell ⟨g,16,none⟩ (.bool on))=w3 at HB3 HR3 HW3 HG3⊢
 clear k16 z16 HB2 HR2 HW2 HG2
 go_wp2_with (refine AU HB3.out rfl _ rfl rfl ?_)
 refine(AT.out _ _ ⟨_,rfl,HG3.out⟩).mono (Au HR3 HW3 fun A7 c7 w7 HR7 HW7 HG7=>?_)
 clear HB3 HR3 HW3 HG3
 go_wp2_with (refine AQ HR7.out hsR rfl _ _ rfl rfl rfl rfl ?_;intro w8 hB8 hk8 hs8)
 exact BU rfl rfl rfl hB8 HG7 HR7 HW7 hk8 Aj
theorem je (s:SN.Sc) (v:Value) (on:Bool) (w:World) (hs:SN.Ad s) (h:IsS w s v):Calls Tryz.prog 173 #[v,.int .i64 7,.bool on] w (Az w (SN.Gn s 7 on)):=by
 have RT:=SN.GI hs 7 on
 obtain⟨x,rfl,hg⟩:=h
 obtain⟨A,cp,rfl⟩:=Af hg
 have hgr:=hs.g.2.1
 have hgc:=hs.g.2.2.2.1
 have hR1:=hs.g.1
 have hK1:=hs.g.2.2.1
 have HG:=hide hg
 cases hb:s.pend with
 | true=>
  have AT:=hide (fun w' v' h=>(show Calls Tryz.prog 14 #[v'] w' (Az w' ((s.u15 on).u5 on)) from FE _ v' (by have:=RT;rw [SN.Pb,hb] at this;exact this) w' h))
  rw [SN.Pb,hb]
  rw [show(true&&on)=on from Bool.true_and on]
  clear RT hg hs
  go_enter Tryz.func173,Tryz.ntmps173
  go_upto_region 1 with (refine BX HG _ rfl rfl rfl rfl rfl ?_;intro g gR w2 csR hsR HB2 HW2 HR2 HG2 hne hg1 Aj)
  clear HG
  have k15:=HB2.out.c15
  have z15:=HB2.out.fz 15
  go_upto_region 9 with fail
  have HB3:=hide (HB2.out.Yv on)
  obtain⟨HR3,HW3,HG3⟩:=EI 15 (.bool on) HB2 HR2 HW2 HG2 hne hg1
  generalize (w2.setCell ⟨g,15,none⟩ (.bool on))=w3 at HB3 HR3 HW3 HG3⊢
  clear k15 z15 HB2 HR2 HW2 HG2
  have k5:w3.cell? ⟨g,5,none⟩=some (.bool true):=HB3.out.c5.trans (by rw [show(s.u15 on).pend=true from hb])
  have z5:=HB3.out.fz 5
  go_upto_region 12 with fail
  have HB4:=hide (HB3.out.Jy on)
  obtain⟨HR4,HW4,HG4⟩:=EI 5 (.bool on) HB3 HR3 HW3 HG3 hne hg1
  generalize (w3.setCell ⟨g,5,none⟩ (.bool on))=w4 at HB4 HR4 HW4 HG4⊢
  clear k5 z5 HB3 HR3 HW3 HG3
  go_wp2_with (refine AU HB4.out rfl _ rfl rfl ?_)
  refine(AT.out _ _ ⟨_,rfl,HG4.out⟩).mono (Au HR4 HW4 fun A7 c7 w7 HR7 HW7 HG7=>?_)
  clear HB4 HR4 HW4 HG4
  go_wp2_with (refine AQ HR7.out hsR rfl _ _ rfl rfl rfl rfl ?_;intro w8 hB8 hk8 hs8)
  exact BU rfl rfl rfl hB8 HG7 HR7 HW7 hk8 Aj
 | false=>
  have AT:=hide (fun w' v' h=>(show Calls Tryz.prog 14 #[v'] w' (Az w' ((s.u15 on).u5 false)) from FE _ v' (by have:=RT;rw [SN.Pb,hb] at this;exact this) w' h))
  rw [SN.Pb,hb]
  rw [show(false&&on)=false from Bool.false_and on]
  clear RT hg hs
  go_enter Tryz.func173,Tryz.ntmps173
  go_upto_region 1 with (refine BX HG _ rfl rfl rfl rfl rfl ?_;intro g gR w2 csR hsR HB2 HW2 HR2 HG2 hne hg1 Aj)
  clear HG
  have k15:=HB2.out.c15
  have z15:=HB2.out.fz 15
  go_upto_region 9 with fail
  have HB3:=hide (HB2.out.Yv on)
  obtain⟨HR3,HW3,HG3⟩:=EI 15 (.bool on) HB2 HR2 HW2 HG2 hne hg1
  generalize (w2.setCell ⟨g,15,none⟩ (.bool on))=w3 at HB3 HR3 HW3 HG3⊢
  clear k15 z15 HB2 HR2 HW2 HG2
  have k5:w3.cell? ⟨g,5,none⟩=some (.bool false):=HB3.out.c5.trans (by rw [show(s.u15 on).pend=false from hb])
  have z5:=HB3.out.fz 5
  go_upto_region 12 with fail
  have HB4:=hide (HB3.out.Jy false)
  obtain⟨HR4,HW4,HG4⟩:=EI 5 (.bool false) HB3 HR3 HW3 HG3 hne hg1
  generalize (w3.setCell ⟨g,5,none⟩ (.bool false))=w4 at HB4 HR4 HW4 HG4⊢
  clear k5 z5 HB3 HR3 HW3 HG3
  go_wp2_with (refine AU HB4.out rfl _ rfl rfl ?_)
  refine(AT.out _ _ ⟨_,rfl,HG4.out⟩).mono (Au HR4 HW4 fun A7 c7 w7 HR7 HW7 HG7=>?_)
  clear HB4 HR4 HW4 HG4
  go_wp2_with (refine AQ HR7.out hsR rfl _ _ rfl rfl rfl rfl ?_;intro w8 hB8 hk8 hs8)
  exact BU rfl rfl rfl hB8 HG7 HR7 HW7 hk8 Aj
theorem eH (s:SN.Sc) (v:Value) (n:Int) (on:Bool) (w:World) (hn: ¬SN.D8 n) (hs:SN.Ad s) (h:IsS w s v):Calls Tryz.prog 173 #[v,.int .i64 n,.bool on] w (Az w (SN.Gn s n on)):=by
 rw [SN.dL s on hn]
 unfold SN.D8 at hn
 have e1:(n==1)=false:=by simp;omega
 have e2:(n==6)=false:=by simp;omega
 have e3:(n==7)=false:=by simp;omega
 have e4:(n==25)=false:=by simp;omega
 obtain⟨x,rfl,hg⟩:=h
 obtain⟨A,cp,rfl⟩:=Af hg
 have hgr:=hs.g.2.1
 have hgc:=hs.g.2.2.2.1
 have hR1:=hs.g.1
 have hK1:=hs.g.2.2.1
 have HG:=hide hg
 have AT:=hide (fun w' v' h=>FE s v' hs w' h)
 clear hg hs hn
 go_enter Tryz.func173,Tryz.ntmps173
 go_upto_region 1 with (refine BX HG _ rfl rfl rfl rfl rfl ?_;intro g gR w2 csR hsR HB2 HW2 HR2 HG2 hne hg1 Aj)
 clear HG
 go_wp2_with (refine AU HB2.out rfl _ rfl rfl ?_)
 refine(AT.out _ _ ⟨_,rfl,HG2.out⟩).mono (Au HR2 HW2 fun A7 c7 w7 HR7 HW7 HG7=>?_)
 clear HB2 HR2 HW2 HG2
 go_wp2_with (refine AQ HR7.out hsR rfl _ _ rfl rfl rfl rfl ?_;intro w8 hB8 hk8 hs8)
 exact BU rfl rfl rfl hB8 HG7 HR7 HW7 hk8 Aj
theorem eO (s:SN.Sc) (v:Value) (n:Int) (on:Bool) (w:World) (hs:SN.Ad s) (h:IsS w s v):Calls Tryz.prog 173 #[v,.int .i64 n,.bool on] w (Az w (SN.Gn s n on)):=by
 by_cases hn:SN.D8 n
 ·rcases hn with rfl | rfl | rfl | rfl
  ·exact jc s v on w hs h
  ·exact jd s v on w hs h
  ·exact je s v on w hs h
  ·exact eG s v on w hs h
 ·exact eH s v n on w hn hs h
theorem XD (s:SN.Sc) (v:Value) (n:Int) (w:World) (h:IsS w s v):Calls Tryz.prog 159 #[v,.int .i64 n] w fun e w'=>e=.returned (.bool (SN.VE s n))/\Below w.heap.size w w':=by
 obtain⟨x,rfl,hg⟩:=h
 obtain⟨A,cp,rfl⟩:=Af hg
 clear hg
 unfold SN.VE
 by_cases h1:n=1
 ·rw [if_pos h1]
  subst h1
  go_enter Tryz.func159,Tryz.ntmps159
  go_upto_region 1 with (first | (refine Aq rfl _ rfl rfl ?_;intro g w1 hB hb1 hg1))
  have k18:=hB.c18
  go_wp2_with fail
  go_ret
  exact⟨rfl,hb1⟩
 rw [if_neg h1]
 by_cases h2:n=6
 ·rw [if_pos h2]
  subst h2
  go_enter Tryz.func159,Tryz.ntmps159
  go_upto_region 1 with (first | (refine Aq rfl _ rfl rfl ?_;intro g w1 hB hb1 hg1))
  have k16:=hB.c16
  go_wp2_with fail
  go_ret
  exact⟨rfl,hb1⟩
 rw [if_neg h2]
 by_cases h3:n=7
 ·rw [if_pos h3]
  subst h3
  go_enter Tryz.func159,Tryz.ntmps159
  go_upto_region 1 with (first | (refine Aq rfl _ rfl rfl ?_;intro g w1 hB hb1 hg1))
  have k15:=hB.c15
  go_wp2_with fail
  go_ret
  exact⟨rfl,hb1⟩
 rw [if_neg h3]
 have e1:(n==1)=false:=by simp;omega
 have e2:(n==6)=false:=by simp;omega
 have e3:(n==7)=false:=by simp;omega
 clear h1 h2 h3
 go_enter Tryz.func159,Tryz.ntmps159
 go_upto_region 1 with (first | (refine Aq rfl _ rfl rfl ?_;intro g w1 hB hb1 hg1))
 have k17:=hB.c17
 go_wp2_with fail
 go_ret
 exact⟨rfl,hb1⟩
theorem Tw (s:SN.Sc) (v:Value) (n:Int) (w:World) (hT:IW w) (h:IsS w s v):Calls Tryz.prog 120 #[v,.int .i64 n] w fun e w'=>e=.returned (.int .i64 (SN.Dr s n))/\Below w.heap.size w w':=by
 have KN:=hide (fun w' (hb:Below w.heap.size w w')=>XC n w' (hT.keep hb))
 obtain⟨x,rfl,hg⟩:=h
 obtain⟨A,cp,rfl⟩:=Af hg
 have HG:=hide hg
 obtain⟨b,hb⟩: ∃b,decide (SN.D8 n)=b:=⟨_,rfl⟩
 rw [hb] at KN
 have HV:=hide (fun w' v' h=>XD s v' n w' h)
 obtain⟨q,hq⟩: ∃q,SN.VE s n=q:=⟨_,rfl⟩
 rw [hq] at HV
 obtain⟨r,hr⟩: ∃r,SN.Dr s n=r:=⟨_,rfl⟩
 have ER:=hide (show r=if b=true then (if q=true then 1 else 2) else 0 by
  subst hr hb hq
  unfold SN.Dr
  simp only [decide_eq_true_eq])
 rw [hr]
 clear hg hb hq hr hT
 go_enter Tryz.func120,Tryz.ntmps120
 go_upto_region 1 with (first | (refine Aq rfl _ rfl rfl ?_;intro g w1 hB hb1 hg1))
 have HB1:=hide hB
 have HW1:=hide hb1
 have HG1:=hide (HG.out.low HW1.out)
 clear hB hb1 HG
 go_wp2_with fail
 refine(KN.out _ HW1.out).mono ?_
 rintro e w2 ⟨rfl,hb2⟩
 have HB2:=hide (HB1.out.below hb2 HB1.out.lt)
 have HW2:=hide (HW1.out.trans (hb2.mono HW1.out.size))
 have HG2:=hide (HG1.out.low hb2)
 clear hb2 HB1 HW1 HG1
 cases b with
 | false=>
  obtain rfl:r=0:=ER.out
  go_wp2_with fail
  go_ret
  exact⟨rfl,HW2.out⟩
 | true=>
  go_wp2_with (refine AU HB2.out rfl _ rfl rfl ?_)
  refine(HV.out _ _ ⟨_,rfl,HG2.out⟩).mono ?_
  rintro e w3 ⟨rfl,hb3⟩
  have HW3:=hide (HW2.out.trans (hb3.mono HW2.out.size))
  clear hb3 HB2 HW2 HG2
  cases q with
  | false=>
   obtain rfl:r=2:=ER.out
   go_wp2_with fail
   go_ret
   exact⟨rfl,HW3.out⟩
  | true=>
   obtain rfl:r=1:=ER.out
   go_wp2_with fail
   go_ret
   exact⟨rfl,HW3.out⟩
end Go.Proofs.YtoaabebgmdbjeaaGreatDoor
namespace Go.Proofs.YtoaabebgmdbjeaaGreatDoor.PS
structure Pn where
 fo:Int
 ba:Int
 fl:Nat
def plain:Pn:=⟨-1, -1,0⟩
def Gx (n:Nat):Nat:= [0,1,2,4,8,16,0,32,64,128].getD n 0
theorem Pq (n:Nat):Gx n<256:=by
 unfold Gx
 rcases Nat.lt_or_ge n 10 with h | h
 ·have: ∀m,m<10-> [0,1,2,4,8,16,0,32,64,128].getD m 0<256:=by decide
  exact this n h
 ·rw [List.getD_eq_getElem?_getD,List.getElem?_eq_none (by simpa using h)]
  decide
def pos (x:Int):Nat:=(max x 0).toNat
def one (p:Pn) (n:Nat):Pn:=
 if n=0 then plain
 else if n<=9 then ⟨p.fo,p.ba,p.fl||| Gx n⟩
 else if n=22 then ⟨p.fo,p.ba,p.fl&&& 252⟩
 else if 23<=n/\n<=29 then ⟨p.fo,p.ba,p.fl&&& (255-Gx (n-20))⟩
 else if 30<=n/\n<=37 then ⟨(n:Int)-30,p.ba,p.fl⟩
 else if 40<=n/\n<=47 then ⟨p.fo,(n:Int)-40,p.fl⟩
 else if 90<=n/\n<=97 then ⟨(n:Int)-82,p.ba,p.fl⟩
 else if 100<=n/\n<=107 then ⟨p.fo,(n:Int)-92,p.fl⟩
 else if n=39 then ⟨-1,p.ba,p.fl⟩
 else if n=49 then ⟨p.fo, -1,p.fl⟩
 else p
def Ok (p:Pn):Prop:=p.fl<256
theorem mg {a b:Nat} (ha:a<256) (hb:b<256):a||| b<256:=Nat.or_lt_two_pow (n:=8) ha hb
theorem Zc {a b:Nat} (ha:a<256):a&&& b<256:=Nat.lt_of_le_of_lt Nat.and_le_left ha
theorem G9:Ok plain:=by unfold Ok plain;decide
theorem Zd {p:Pn} (h:Ok p) (n:Nat):Ok (one p n):=by
 unfold one
 repeat' split
 all_goals first | exact G9 | exact mg h (Pq _) | exact Zc h | exact h
def wide:List Int->Option Int × Nat
 | [] =>(none,0)
 | [_] =>(none,1)
 | [a,b] =>(if a=5/\pos b<=255 then some (pos b:Nat) else none,2)
 | [a,b,c] =>if a=5 then (if pos b<=255 then some (pos b:Nat) else none,2) else (none,3)
 | a::b::c::d::r=>if a=5 then (if pos b<=255 then some (pos b:Nat) else none,2)
  else if a=2 then (if pos b<=255/\pos c<=255/\pos d<=255 then some (16777216+(pos b:Nat)*65536+(pos c:Nat)*256+(pos d:Nat)) else none,4)
  else (none,r.length+4)
theorem JO (a b c d:Int) (r:List Int):wide (a::b::c::d::r)=(if a=5 then (if pos b<=255 then some ((pos b:Nat):Int) else none,2) else if a=2 then (if pos b<=255/\pos c<=255/\pos d<=255 then some (16777216+((pos b:Nat):Int)*65536+((pos c:Nat):Int)*256+((pos d:Nat):Int)) else none,4) else (none,r.length+4):Option Int × Nat):=rfl
theorem XE (b:Int) (hb:pos b<=255): ∀r:List Int,wide (5::b::r)=(some ((pos b:Nat):Int),2)
 | [] =>by
  show(if (5:Int)=5/\pos b<=255 then some ((pos b:Nat):Int) else none,2)=_
  rw [if_pos ⟨rfl,hb⟩]
 | [_] =>by
  show(if (5:Int)=5 then (if pos b<=255 then some ((pos b:Nat):Int) else none,2) else (none,3))=_
  rw [if_pos rfl,if_pos hb]
 | c::d::r=>by rw [JO,if_pos rfl,if_pos hb]
def Tx (p:Pn):Option Int->Pn
 | none=>p
 | some c=>⟨c,p.ba,p.fl⟩
def back (p:Pn):Option Int->Pn
 | none=>p
 | some c=>⟨p.fo,c,p.fl⟩
theorem eP {p:Pn} (h:Ok p): ∀o,Ok (Tx p o)
 | none=>h
 | some _=>h
theorem eT {p:Pn} (h:Ok p): ∀o,Ok (back p o)
 | none=>h
 | some _=>h
def app:Nat->Pn->List Int->Pn
 | _,p, [] =>p
 | 0,p,_::_=>p
 | k+1,p,x::l=>if pos x=38 then app k (Tx p (wide l).1) (l.drop (wide l).2)
  else if pos x=48 then app k (back p (wide l).1) (l.drop (wide l).2)
  else app k (one p (pos x)) l
theorem GU (k:Nat) (p:Pn) (x:Int) (l:List Int):app (k+1) p (x::l)=if pos x=38 then app k (Tx p (wide l).1) (l.drop (wide l).2) else if pos x=48 then app k (back p (wide l).1) (l.drop (wide l).2) else app k (one p (pos x)) l:=rfl
theorem Lm (k:Nat) (p:Pn):app k p [] =p:=by cases k<;>rfl
theorem Pt: ∀(k:Nat) {p:Pn} (l:List Int),Ok p->Ok (app k p l)
 | _,p, [],h=>by rw [Lm];exact h
 | 0,p,_::_,h=>h
 | k+1,p,x::l,h=>by
  rw [GU]
  split
  ·exact Pt k _ (eP h _)
  ·split
   ·exact Pt k _ (eT h _)
   ·exact Pt k _ (Zd h _)
theorem I6: ∀(k j:Nat) (p:Pn) (l:List Int),l.length<=k->l.length<=j->app k p l=app j p l
 | k,j,p, [],_,_=>by rw [Lm,Lm]
 | 0,j,p,x::l,h,_=>by simp at h
 | k+1,0,p,x::l,_,h=>by simp at h
 | k+1,j+1,p,x::l,h1,h2=>by
  simp only [List.length_cons] at h1 h2
  rw [GU,GU]
  split
  ·exact I6 k j _ _ (by rw [List.length_drop];omega) (by rw [List.length_drop];omega)
  ·split
   ·exact I6 k j _ _ (by rw [List.length_drop];omega) (by rw [List.length_drop];omega)
   ·exact I6 k j _ _ (by omega) (by omega)
def sgr (p:Pn) (l:List Int):Pn:=app l.length p l
def apply (p:Pn) (l:List Int):Pn:=if l= [] then plain else sgr p l
theorem jf {p:Pn} (h:Ok p) (l:List Int):Ok (sgr p l):=Pt _ _ h
theorem Ze {p:Pn} (h:Ok p) (l:List Int):Ok (apply p l):=by
 unfold apply
 split
 ·exact G9
 ·exact jf h l
theorem eU {x:Int} (h1:pos x≠38) (h2:pos x≠48) (p:Pn) (l:List Int):sgr p (x::l)=sgr (one p (pos x)) l:=by
 unfold sgr
 show app (l.length+1) p (x::l)=_
 rw [GU]
 rw [if_neg h1,if_neg h2]
theorem Zf {x:Int} (h1:pos x=38) (p:Pn) (l:List Int):sgr p (x::l)=sgr (Tx p (wide l).1) (l.drop (wide l).2):=by
 unfold sgr
 show app (l.length+1) p (x::l)=_
 rw [GU]
 rw [if_pos h1]
 exact I6 _ _ _ _ (by rw [List.length_drop];exact Nat.sub_le _ _) (Nat.le_refl _)
theorem Zg {x:Int} (h1:pos x=48) (p:Pn) (l:List Int):sgr p (x::l)=sgr (back p (wide l).1) (l.drop (wide l).2):=by
 unfold sgr
 show app (l.length+1) p (x::l)=_
 rw [GU]
 rw [if_neg (by omega),if_pos h1]
 exact I6 _ _ _ _ (by rw [List.length_drop];exact Nat.sub_le _ _) (Nat.le_refl _)
def Col (c:Int):Prop:=c= -1\/(0<=c/\c<=255)\/(16777216<=c/\c<33554432)
end Go.Proofs.YtoaabebgmdbjeaaGreatDoor.PS
namespace Go.Proofs.YtoaabebgmdbjeaaGreatDoor
namespace CH
def drawn:List Int:= [9670,9618,9225,9228,9229,9226,176,177,9252,9227,9496,9488,9484,9492,9532,9146,9147,9472,9148,9149,9500,9508,9524,9516,9474,8804,8805,960,8800,163,183]
def jg:List Int:= [42,35,72,70,67,76,111,43,78,86,43,43,43,43,43,45,45,45,45,95,43,43,43,43,124,60,62,112,33,76,46]
def Lp (k:Nat):Int:=drawn.getD k 0
def eX (k:Nat):Int:=jg.getD k 0
def draw (b:Int):Int:=if b=95 then 32 else if 96<=b/\b<=126 then Lp (b-96).toNat else b
def VO:List Int->Int->Nat
 | [],_=>0
 | d::l,r=>if d=r then 0 else VO l r+1
def place (r:Int):Nat:=VO drawn r
def plain (r:Int):Int:=if 32<=r/\r<127 then r else if place r<31 then eX (place r) else 63
end CH
end Go.Proofs.YtoaabebgmdbjeaaGreatDoor
namespace Go.Proofs.YtoaabebgmdbjeaaGreatDoor
open Go.RowKit
namespace PS
theorem Pv {n:Int} (h0:0<=n) (h:n<=255):Col n:=.inr (.inl ⟨h0,h⟩)
theorem Tz:Col (-1):=.inl rfl
theorem eY {p:Pn} (h1:Col p.fo) (h2:Col p.ba) (n:Nat):Col (one p n).fo/\Col (one p n).ba:=by
 unfold one
 repeat' split
 all_goals (refine⟨?_,?_⟩<;>(try dsimp only [plain])<;>first | exact h1 | exact h2 | exact Tz | exact Pv (by omega) (by omega))
theorem RY: ∀(l:List Int) (c:Int),(wide l).1=some c->Col c
 | [],c,h=>by simp [wide] at h
 | [_],c,h=>by simp [wide] at h
 | [a,b],c,h=>by
  simp only [wide] at h
  split at h
  ·rename_i hh
   simp only [Option.some.injEq] at h
   subst h
   exact Pv (by omega) (by omega)
  ·cases h
 | [a,b,d],c,h=>by
  simp only [wide] at h
  split at h
  ·split at h
   ·simp only [Option.some.injEq] at h
    subst h
    exact Pv (by omega) (by omega)
   ·cases h
  ·cases h
 | a::b::d::e::r,c,h=>by
  simp only [wide] at h
  split at h
  ·split at h
   ·simp only [Option.some.injEq] at h
    subst h
    exact Pv (by omega) (by omega)
   ·cases h
  ·repeat' (split at h)
   all_goals first | (cases h;done) | (simp only [Option.some.injEq] at h;subst h;exact .inr (.inr (by omega)))
theorem Zh {p:Pn} (h1:Col p.fo) (h2:Col p.ba) {o:Option Int} (ho: ∀c,o=some c->Col c):Col (Tx p o).fo/\Col (Tx p o).ba:=by
 cases o with
 | none=>exact⟨h1,h2⟩
 | some c=>exact⟨ho c rfl,h2⟩
theorem Zi {p:Pn} (h1:Col p.fo) (h2:Col p.ba) {o:Option Int} (ho: ∀c,o=some c->Col c):Col (back p o).fo/\Col (back p o).ba:=by
 cases o with
 | none=>exact⟨h1,h2⟩
 | some c=>exact⟨h1,ho c rfl⟩
theorem Lr: ∀(k:Nat) {p:Pn} (l:List Int),Col p.fo->Col p.ba->Col (app k p l).fo/\Col (app k p l).ba
 | _,p, [],h1,h2=>by rw [Lm];exact⟨h1,h2⟩
 | 0,p,_::_,h1,h2=>⟨h1,h2⟩
 | k+1,p,x::l,h1,h2=>by
  rw [GU]
  split
  ·have:=Zh h1 h2 (RY l)
   exact Lr k _ this.1 this.2
  ·split
   ·have:=Zi h1 h2 (RY l)
    exact Lr k _ this.1 this.2
   ·have:=eY h1 h2 (pos x)
    exact Lr k _ this.1 this.2
theorem XF {p:Pn} (h1:Col p.fo) (h2:Col p.ba) (l:List Int):Col (apply p l).fo/\Col (apply p l).ba:=by
 unfold apply
 split
 ·exact⟨Tz,Tz⟩
 ·exact Lr _ _ h1 h2
end PS
namespace SN
def Zj (p:PG.Pn) (l:List Int):PG.Pn:=((PS.apply ⟨p.1,p.2.1,p.2.2.toNat⟩ l).fo,(PS.apply ⟨p.1,p.2.1,p.2.2.toNat⟩ l).ba,((PS.apply ⟨p.1,p.2.1,p.2.2.toNat⟩ l).fl:Nat))
theorem JE {c:Int}:C.col c=true<->PS.Col c:=by
 unfold C.col PS.Col
 simp
theorem XG {p:PG.Pn} (h:PG.Cc p) (l:List Int):PG.Cc (Zj p l):=by
 obtain⟨h1,h2,h3,h4⟩:=C.Ej.1 h
 have c:=PS.XF (p:=⟨p.1,p.2.1,p.2.2.toNat⟩) (JE.1 h1) (JE.1 h2) l
 have o:=PS.Ze (p:=⟨p.1,p.2.1,p.2.2.toNat⟩) (show p.2.2.toNat<256 by omega) l
 unfold PS.Ok at o
 refine C.Ej.2 ⟨JE.2 c.1,JE.2 c.2,?_,?_⟩
 ·show(0:Int)<=((PS.apply ⟨p.1,p.2.1,p.2.2.toNat⟩ l).fl:Nat)
  omega
 ·show(((PS.apply ⟨p.1,p.2.1,p.2.2.toNat⟩ l).fl:Nat):Int)<=255
  omega
def Zk (s:Sc):Int:=if s.sh=0 then s.s0 else s.s1
def Gy (s:Sc) (x:Int):Int:=if Zk s=48/\95<=x/\x<=126 then CH.draw x else x
theorem XH {s:Sc} {r p:Int} (h0:0<=r) (h1:r<=1114111) (h:Gy s r=p): -2147483648<=p/\p<=2147483647:=by
 subst h
 unfold Gy
 split
 ·rename_i hh
  have e: ∀k:Fin 32, -2147483648<=CH.draw (95+(k.val:Int))/\CH.draw (95+(k.val:Int))<=2147483647:=by decide
  have:=e ⟨(r-95).toNat,by omega⟩
  rw [show(95+(((⟨(r-95).toNat,by omega⟩:Fin 32).val:Nat):Int))=r by show(95+(((r-95).toNat:Nat):Int))=r;omega] at this
  exact this
 ·omega
def KU (s:Sc) (w:Nat):Sc:=if s.wrap=true/\(s.pend=true\/s.g.AB<s.col+w) then Du (s.u4 0) else s
def EA (s:Sc) (w:Nat):Nat:=min s.col (s.g.AB-w)
def EI (s:Sc) (x:Int) (w:Nat):Sc:=
 if s.g.AB<=EA s w+w then ((s.uG (PG.EN s.g s.row (EA s w) x s.pen)).u4 (s.g.AB-1)).u5 s.wrap
 else ((s.uG (PG.EN s.g s.row (EA s w) x s.pen)).u4 (EA s w+w)).u5 false
def Jm (s:Sc) (r:Int):Sc:=if C.width (Gy s r)=0\/(s.g.AB:Int)<C.width (Gy s r) then s else EI (KU s (C.width (Gy s r)).toNat) (Gy s r) (C.width (Gy s r)).toNat
def GV (s:Sc) (b:Int):Sc:=
 if b=8 then atS s s.row ((s.col:Int)-1)
 else if b=9 then atS s s.row (TB.next s.tabs s.col s.g.AB)
 else if b=10\/b=11\/b=12 then Du s
 else if b=13 then atS s s.row 0
 else if b=14 then s.u14 1
 else if b=15 then s.u14 0
 else s
def Fv (s:Sc) (it fn:Int):Sc:=
 if it=40\/it=41 then (if fn=48\/fn=66 then (if it=40 then s.u12 fn else s.u13 fn) else s)
 else if it≠0 then s
 else if fn=55 then LJ s
 else if fn=56 then Mh s
 else if fn=68 then Du s
 else if fn=69 then Du (s.u4 0)
 else if fn=77 then KI s
 else if fn=72 then s.u11 (TB.Ih s.tabs s.col)
 else if fn=99 then full s.g.rows s.g.AB
 else if fn=61 then s.u19 true
 else if fn=62 then s.u19 false
 else s
def Bj (l:List Int) (i:Nat) (d:Int):Int:=if l.getD i 0<1 then d else l.getD i 0
def NA (s:Sc) (fn:Int) (l:List Int):Option Sc:=
 if fn=65 then some (upS s (Bj l 0 1).toNat)
 else if fn=66 then some (JU s (Bj l 0 1).toNat)
 else if fn=67 then some (atS s s.row ((s.col:Int)+Bj l 0 1))
 else if fn=68 then some (atS s s.row ((s.col:Int)-Bj l 0 1))
 else if fn=69 then some (atS s (VD s (Bj l 0 1).toNat) 0)
 else if fn=70 then some (atS s (upR s (Bj l 0 1).toNat) 0)
 else if fn=71\/fn=96 then some (atS s s.row (Bj l 0 1-1))
 else if fn=100 then some (goS s (Bj l 0 1-1) s.col)
 else if fn=72\/fn=102 then some (goS s (Bj l 0 1-1) (Bj l 1 1-1))
 else none
def InM (s:Sc):Prop:=s.top<=s.row/\s.row<=s.bot
instance (s:Sc):Decidable (InM s):=inferInstanceAs (Decidable (_/\_))
def marginTop (l:List Int):Int:=Bj l 0 1-1
def Cr (s:Sc) (l:List Int):Int:=min (Bj l 1 s.g.rows) s.g.rows-1
def GY (s:Sc) (fn:Int) (l:List Int):Sc:=
 if fn=74 then (s.uG (PG.GD s.g s.row s.col (Bj l 0 0) (BI s))).u5 false
 else if fn=75 then (s.uG (PG.Bq s.g s.row s.col (Bj l 0 0) (BI s))).u5 false
 else if fn=76 then (if InM s then atS (s.uG (PG.Ay s.g s.row s.bot (-(Bj l 0 1)) (BI s))) s.row 0 else s)
 else if fn=77 then (if InM s then atS (s.uG (PG.Ay s.g s.row s.bot (Bj l 0 1) (BI s))) s.row 0 else s)
 else if fn=64 then (s.uG (PG.Cb s.g s.row s.col (Bj l 0 1) (BI s))).u5 false
 else if fn=80 then (s.uG (PG.Cb s.g s.row s.col (-(Bj l 0 1)) (BI s))).u5 false
 else if fn=88 then (s.uG (PG.DL s.g s.row s.col (s.col+(Bj l 0 1).toNat) (BI s))).u5 false
 else if fn=83 then s.uG (PG.Ay s.g s.top s.bot (Bj l 0 1) (BI s))
 else if fn=84 then s.uG (PG.Ay s.g s.top s.bot (-(Bj l 0 1)) (BI s))
 else if fn=109 then s.uP (Zj s.pen l)
 else if fn=114 then (if marginTop l<Cr s l then JV ((s.u6 (marginTop l).toNat).u7 (Cr s l).toNat) else s)
 else if fn=103 then (if Bj l 0 0=0 then s.u11 (TB.drop1 s.tabs s.col) else if Bj l 0 0=3 then s.u11 0 else s)
 else if fn=115 then LJ s
 else if fn=117 then Mh s
 else s
def Ct (s:Sc) (on:Bool) (l:List Int):Sc:=l.foldl (fun t n=>Gn t n on) s
def XI (s:Sc) (pv it fn:Int) (l:List Int):Sc:=
 if it≠0\/(pv≠0/\pv≠63) then s
 else if pv=63 then (if fn=104 then Ct s true l else if fn=108 then Ct s false l else s)
 else (NA s fn l).getD (GY s fn l)
def doS (s:Sc) (kd rn pv it fn:Int) (l:List Int):Sc:=
 if kd=1 then Jm s rn else if kd=2 then GV s fn else if kd=3 then Fv s it fn else if kd=4 then XI s pv it fn l else s
theorem GZ {s:Sc} (h:Ad s) {G:PG.Gr} (hG:PG.BL G) (h1:G.rows=s.g.rows) (h2:G.AB=s.g.AB):Ad (s.uG G):=by
 refine⟨hG,?_,?_,?_,?_,h.pen,h.tabs,h.set,?_,?_⟩
 ·show s.row<G.rows
  rw [h1];exact h.row
 ·show s.col<G.AB
  rw [h2];exact h.col
 ·show s.bot<G.rows
  rw [h1];exact h.bot
 ·show s.top<s.bot\/(G.rows=1/\s.top=0/\s.bot=0)
  rw [h1];exact h.top
 ·show s.pend=true->s.wrap=true/\s.col+1=G.AB
  rw [h2];exact h.pend
 ·show Jw G.rows G.AB s.sv
  rw [h1,h2];exact h.sv
theorem KV {s:Sc} (h:Ad s):Ad (s.u5 false):=⟨h.g,h.row,h.col,h.bot,h.top,h.pen,h.tabs,h.set,(fun e=>nomatch e),h.sv⟩
theorem Zl {s:Sc} (h:Ad s) {c:Nat} (hc:c<s.g.AB):Ad ((s.u5 false).u4 c):=⟨h.g,h.row,hc,h.bot,h.top,h.pen,h.tabs,h.set,(fun e=>nomatch e),h.sv⟩
theorem Og {s:Sc} (h:Ad s) {v:Int} (hv:v=0\/v=1):Ad (s.u14 v):=⟨h.g,h.row,h.col,h.bot,h.top,h.pen,h.tabs,⟨h.set.1,h.set.2.1,hv⟩,h.pend,h.sv⟩
theorem Kv {s:Sc} (h:Ad s) {t:Nat} (ht:TB.Ok t):Ad (s.u11 t):=⟨h.g,h.row,h.col,h.bot,h.top,h.pen,ht,h.set,h.pend,h.sv⟩
theorem Oh {s:Sc} (h:Ad s) (b:Bool):Ad (s.u19 b):=⟨h.g,h.row,h.col,h.bot,h.top,h.pen,h.tabs,h.set,h.pend,h.sv⟩
theorem Zm {s:Sc} (h:Ad s) {p:PG.Pn} (hp:PG.Cc p):Ad (s.uP p):=⟨h.g,h.row,h.col,h.bot,h.top,hp,h.tabs,h.set,h.pend,h.sv⟩
theorem VP (s:Sc):Du (s.u4 0)=Du ((s.u5 false).u4 0):=by
 unfold Du
 rfl
theorem LU {s:Sc} (h:Ad s):Ad (Du (s.u4 0)):=by
 rw [VP]
 exact Jj (Zl h h.g.2.2.1)
theorem XJ (s:Sc):(Du s).g.rows=s.g.rows/\(Du s).g.AB=s.g.AB:=by
 unfold Du
 split
 ·exact PG.Dn s.g s.top s.bot 1 (BI s)
 ·exact⟨rfl,rfl⟩
theorem ND {s:Sc} (h:Ad s) (w:Nat):Ad (KU s w):=by
 unfold KU
 split
 ·exact LU h
 ·exact h
theorem XK (s:Sc) (w:Nat):(KU s w).g.AB=s.g.AB:=by
 unfold KU
 split
 ·exact(XJ (s.u4 0)).2
 ·rfl
theorem Cv (g:PG.Gr) (r c:Nat) (x:Int) (p:PG.Pn):(PG.EN g r c x p).rows=g.rows/\(PG.EN g r c x p).AB=g.AB:=by
 unfold PG.EN
 split<;>exact⟨rfl,rfl⟩
theorem DI (g:PG.Gr) (r a b:Nat) (p:PG.Pn):(PG.DL g r a b p).rows=g.rows/\(PG.DL g r a b p).AB=g.AB:=by
 unfold PG.DL
 split<;>exact⟨rfl,rfl⟩
theorem T9 {s:Sc} (h:Ad s) (x:Int) (w:Nat):Ad (EI s x w):=by
 obtain⟨e1,e2⟩:=Cv s.g s.row (EA s w) x s.pen
 have hg:=PG.SY h.g h.pen s.row (EA s w) x
 have hc:=h.g.2.2.1
 unfold EI
 split
 ·refine⟨hg,?_,?_,?_,?_,h.pen,h.tabs,h.set,?_,?_⟩
  ·show s.row<(PG.EN s.g s.row (EA s w) x s.pen).rows
   rw [e1];exact h.row
  ·show s.g.AB-1<(PG.EN s.g s.row (EA s w) x s.pen).AB
   rw [e2];omega
  ·show s.bot<(PG.EN s.g s.row (EA s w) x s.pen).rows
   rw [e1];exact h.bot
  ·show s.top<s.bot\/((PG.EN s.g s.row (EA s w) x s.pen).rows=1/\s.top=0/\s.bot=0)
   rw [e1];exact h.top
  ·show s.wrap=true->s.wrap=true/\s.g.AB-1+1=(PG.EN s.g s.row (EA s w) x s.pen).AB
   intro e
   rw [e2];exact⟨e,by omega⟩
  ·show Jw (PG.EN s.g s.row (EA s w) x s.pen).rows (PG.EN s.g s.row (EA s w) x s.pen).AB s.sv
   rw [e1,e2];exact h.sv
 ·refine⟨hg,?_,?_,?_,?_,h.pen,h.tabs,h.set,(fun e=>nomatch e),?_⟩
  ·show s.row<(PG.EN s.g s.row (EA s w) x s.pen).rows
   rw [e1];exact h.row
  ·show EA s w+w<(PG.EN s.g s.row (EA s w) x s.pen).AB
   rw [e2];omega
  ·show s.bot<(PG.EN s.g s.row (EA s w) x s.pen).rows
   rw [e1];exact h.bot
  ·show s.top<s.bot\/((PG.EN s.g s.row (EA s w) x s.pen).rows=1/\s.top=0/\s.bot=0)
   rw [e1];exact h.top
  ·show Jw (PG.EN s.g s.row (EA s w) x s.pen).rows (PG.EN s.g s.row (EA s w) x s.pen).AB s.sv
   rw [e1,e2];exact h.sv
theorem Pw {s:Sc} (h:Ad s) (r:Int):Ad (Jm s r):=by
 unfold Jm
 split
 ·exact h
 ·exact T9 (ND h _) _ _
theorem RZ {s:Sc} (h:Ad s) (b:Int):Ad (GV s b):=by
 unfold GV
 split
 ·exact Dh h _ _
 split
 ·exact Dh h _ _
 split
 ·exact Jj h
 split
 ·exact Dh h _ _
 split
 ·exact Og h (.inr rfl)
 split
 ·exact Og h (.inl rfl)
 ·exact h
theorem Et {P:Sc->Prop} {c:Prop} [Decidable c] {a:Sc} {o:Option Sc} (h1:P a) (h2: ∀t,o=some t->P t): ∀t,(if c then some a else o)=some t->P t:=by
 intro t ht
 split at ht
 ·cases ht
  exact h1
 ·exact h2 t ht
theorem XL {t c:Nat} (h:TB.Ok t) (hc:c<60):TB.Ok (TB.Ih t c):=by
 unfold TB.Ok TB.Ih at*
 exact Nat.or_lt_two_pow (n:=64) h (Nat.pow_lt_pow_right (by omega) (by omega))
theorem UA {t c:Nat} (h:TB.Ok t):TB.Ok (TB.drop1 t c):=Nat.lt_of_le_of_lt Nat.and_le_left h
theorem UC {s:Sc} (h:Ad s) (it fn:Int):Ad (Fv s it fn):=by
 have hfull:Ad (full s.g.rows s.g.AB):=Sg h.g.1 h.g.2.1 h.g.2.2.1 h.g.2.2.2.1
 have CX:=h.col
 have hk:=h.g.2.2.2.1
 unfold Fv
 split
 ·split
  ·rename_i hf
   split
   ·exact⟨h.g,h.row,h.col,h.bot,h.top,h.pen,h.tabs,⟨hf.symm,h.set.2.1,h.set.2.2⟩,h.pend,h.sv⟩
   ·exact⟨h.g,h.row,h.col,h.bot,h.top,h.pen,h.tabs,⟨h.set.1,hf.symm,h.set.2.2⟩,h.pend,h.sv⟩
  ·exact h
 split
 ·exact h
 split
 ·exact Mj h
 split
 ·exact Mk h
 split
 ·exact Jj h
 split
 ·exact LU h
 split
 ·exact TM h
 split
 ·exact Kv h (XL h.tabs (by omega))
 split
 ·exact hfull
 split
 ·exact Oh h _
 split
 ·exact Oh h _
 ·exact h
theorem Ra {s:Sc} (h:Ad s) (fn:Int) (l:List Int): ∀t,NA s fn l=some t->Ad t:=by
 have hn: ∀t,(none:Option Sc)=some t->Ad t:=fun t e=>nomatch e
 have ha:=fun (r c:Int)=>Dh h r c
 unfold NA
 exact Et (ha _ _) (Et (ha _ _) (Et (ha _ _) (Et (ha _ _) (Et (ha _ _) (Et (ha _ _) (Et (ha _ _) (Et (ha _ _) (Et (ha _ _) hn))))))))
theorem Ey {c:Prop} [Decidable c] {a b:Sc} (h1:Ad a) (h2:Ad b):Ad (if c then a else b):=by
 split
 ·exact h1
 ·exact h2
theorem Rb {s:Sc} (h:Ad s) (fn:Int) (l:List Int):Ad (GY s fn l):=by
 have hp:=CR h
 have CX:=h.col
 have hk:=h.g.2.2.2.1
 have sc:=fun (t b:Nat) (n:Int)=>GZ h (PG.FP h.g hp t b n) (PG.Dn s.g t b n (BI s)).1 (PG.Dn s.g t b n (BI s)).2
 have sh:=fun (r c:Nat) (n:Int)=>KV (GZ h (PG.PW h.g hp r c n) (PG.Hz s.g r c n (BI s)).1 (PG.Hz s.g r c n (BI s)).2)
 have wi:=fun (r a b:Nat)=>KV (GZ h (PG.K7 h.g hp r a b) (DI s.g r a b (BI s)).1 (DI s.g r a b (BI s)).2)
 have er:=fun (r c k:Int)=>KV (GZ h (PG.PY h.g hp r c k) (PG.LH s.g r c k (BI s)).1 (PG.LH s.g r c k (BI s)).2)
 have li:=fun (r c k:Int)=>KV (GZ h (PG.Qp h.g hp r c k) (PG.Ji s.g r c k (BI s)).1 (PG.Ji s.g r c k (BI s)).2)
 have hm:Ad (if marginTop l<Cr s l then JV ((s.u6 (marginTop l).toNat).u7 (Cr s l).toNat) else s):=by
  split
  ·rename_i hm
   have h1:0<=marginTop l:=by
    unfold marginTop Bj
    split<;>omega
   have h2:Cr s l<=(s.g.rows:Int)-1:=by
    unfold Cr
    omega
   have hR:=h.g.1
   exact Dh (s:=(s.u6 (marginTop l).toNat).u7 (Cr s l).toNat) ⟨h.g,h.row,h.col,(by show(Cr s l).toNat<s.g.rows;omega),.inl (by show(marginTop l).toNat<(Cr s l).toNat;omega),h.pen,h.tabs,h.set,h.pend,h.sv⟩ _ _
  ·exact h
 have h0:TB.Ok 0:=by unfold TB.Ok;omega
 unfold GY
 exact Ey (er _ _ _) (Ey (li _ _ _) (Ey (Ey (Dh (sc _ _ _) _ _) h) (Ey (Ey (Dh (sc _ _ _) _ _) h) (Ey (sh _ _ _) (Ey (sh _ _ _) (Ey (wi _ _ _) (Ey (sc _ _ _) (Ey (sc _ _ _) (Ey (Zm h (XG h.pen l)) (Ey hm (Ey (Ey (Kv h (UA h.tabs)) (Ey (Kv h h0) h)) (Ey (Mj h) (Ey (Mk h) h)))))))))))))
theorem II {s:Sc} (h:Ad s) (on:Bool): ∀l:List Int,Ad (Ct s on l):=by
 intro l
 unfold Ct
 induction l generalizing s with
 | nil=>exact h
 | cons x l ih=>exact ih (GI h x on)
theorem UD {s:Sc} (h:Ad s) (pv it fn:Int) (l:List Int):Ad (XI s pv it fn l):=by
 unfold XI
 split
 ·exact h
 split
 ·split
  ·exact II h true l
  ·split
   ·exact II h false l
   ·exact h
 ·cases e:NA s fn l with
  | none=>exact Rb h fn l
  | some t=>exact Ra h fn l t e
theorem XM {s:Sc} (h:Ad s) (kd rn pv it fn:Int) (l:List Int):Ad (doS s kd rn pv it fn l):=by
 unfold doS
 split
 ·exact Pw h rn
 split
 ·exact RZ h fn
 split
 ·exact UC h it fn
 split
 ·exact UD h pv it fn l
 ·exact h
end SN
end Go.Proofs.YtoaabebgmdbjeaaGreatDoor
namespace Go.Proofs.YtoaabebgmdbjeaaGreatDoor
open Go.RowKit
namespace U
end U
namespace PA
structure Fits (e:Ev):Prop where
 rune:e.kind=1->0<=e.rune/\e.rune<=1114111
 len:e.params.length<=16
 nums: ∀x∈e.params, -1<=x/\x<=65535
theorem eZ {r:Int} (h:0<=r/\r<=1114111):Fits (pr r):=⟨fun _=>h,by simp [pr],by simp [pr]⟩
theorem UE {e:Ev} (h:Right e):Fits e:=by
 rcases h with ⟨r,rfl,hr⟩ | ⟨b,rfl,_⟩ | ⟨i,f,rfl,_⟩ | ⟨p,i,f,ps,rfl,_,_,_,_,hl,hn,_⟩ | ⟨t,rfl,_⟩
 ·unfold Ee at hr
  exact eZ (by omega)
 ·exact⟨fun e=>(by cases e),by simp,by simp⟩
 ·exact⟨fun e=>(by cases e),by simp,by simp⟩
 ·exact⟨fun e=>(by cases e),hl,hn⟩
 ·exact⟨fun e=>(by cases e),by simp,by simp⟩
end PA
namespace SN
def Rc (s:Sc) (e:PA.Ev):Sc:=doS s e.kind e.rune e.priv e.inter e.final e.params
def Bf (s:Sc) (es:List PA.Ev):Sc:=es.foldl Rc s
theorem XO (s:Sc):Bf s [] =s:=rfl
theorem UF (s:Sc) (e:PA.Ev) (es:List PA.Ev):Bf s (e::es)=Bf (Rc s e) es:=rfl
theorem Oi (s:Sc) (a b:List PA.Ev):Bf s (a++b)=Bf (Bf s a) b:=by unfold Bf;rw [List.foldl_append]
theorem NG (s:Sc) (a:List PA.Ev) (e:PA.Ev):Bf s (a++ [e])=Rc (Bf s a) e:=by rw [Oi];rfl
theorem UG {s:Sc} (h:Ad s) (e:PA.Ev):Ad (Rc s e):=XM h _ _ _ _ _ _
theorem FZ {s:Sc} (h:Ad s) (es:List PA.Ev):Ad (Bf s es):=by
 induction es generalizing s with
 | nil=>exact h
 | cons e es ih=>exact ih (UG h e)
end SN
end Go.Proofs.YtoaabebgmdbjeaaGreatDoor
namespace Go.Proofs.YtoaabebgmdbjeaaGreatDoor
open Go.RowKit
def Kw:Array Value:= #[.int .i32 9670,.int .u8 42,.int .i32 9618,.int .u8 35,.int .i32 9225,.int .u8 72,.int .i32 9228,.int .u8 70,.int .i32 9229,.int .u8 67,.int .i32 9226,.int .u8 76,.int .i32 176,.int .u8 111,.int .i32 177,.int .u8 43,.int .i32 9252,.int .u8 78,.int .i32 9227,.int .u8 86,.int .i32 9496,.int .u8 43,.int .i32 9488,.int .u8 43,.int .i32 9484,.int .u8 43,.int .i32 9492,.int .u8 43,.int .i32 9532,.int .u8 43,.int .i32 9146,.int .u8 45,.int .i32 9147,.int .u8 45,.int .i32 9472,.int .u8 45,.int .i32 9148,.int .u8 45,.int .i32 9149,.int .u8 95,.int .i32 9500,.int .u8 43,.int .i32 9508,.int .u8 43,.int .i32 9524,.int .u8 43,.int .i32 9516,.int .u8 43,.int .i32 9474,.int .u8 124,.int .i32 8804,.int .u8 60,.int .i32 8805,.int .u8 62,.int .i32 960,.int .u8 112,.int .i32 8800,.int .u8 33,.int .i32 163,.int .u8 76,.int .i32 183,.int .u8 46]
def Gs (w:World):Prop:= ∃t,w.heap[1]? =some (.cells Kw t (0,0))
theorem Gs.lt {w:World} (h:Gs w):1<w.heap.size:=by
 obtain⟨t,h⟩:=h
 exact(Array.getElem?_eq_some_iff.1 h).1
theorem Gs.below {w w':World} {B:Nat} (h:Gs w) (hb:Below B w w') (hB:1<B):Gs w':=by
 obtain⟨t,h⟩:=h
 exact⟨t,(hb.block _ hB).trans h⟩
theorem Gs.keep {w w':World} (h:Gs w) (hb:Below w.heap.size w w'):Gs w':=h.below hb h.lt
theorem jh:Tryz.prog.globalNamed "linguist/charset.signs" =some 1:=by kernel_rfl
theorem ji:(Tryz.prog.globals[1]?).map (·.type)=some 161:=by kernel_rfl
theorem UH:tiled Tryz.prog 4 161=true:=by kernel_rfl
theorem XP:flat (H:=Unit) Rows.laid_linguist_charset_signs=some Kw.toList:=by rfl
theorem UJ {w:World} {l:List (String × DataW Unit)} (h:laidMet Tryz.prog l w) (hm:("linguist/charset.signs",Rows.laid_linguist_charset_signs)∈l):Gs w:=by
 obtain⟨t,ht⟩:=DV 4 jh ji UH XP (by simp [Kw]) h hm
 exact⟨t,by simpa using ht⟩
theorem Rf {w:World} (h:Gs w) (k:Nat) (hk:k<31):w.cell? ⟨1,k*2,none⟩=some (.int .i32 (CH.Lp k)):=by
 obtain⟨t,h⟩:=h
 rw [cell_of_row w _ (k*2) _ t (0,0) h]
 obtain rfl | rfl | rfl | rfl | rfl | rfl | rfl | rfl | rfl | rfl | rfl | rfl | rfl | rfl | rfl | rfl | rfl | rfl | rfl | rfl | rfl | rfl | rfl | rfl | rfl | rfl | rfl | rfl | rfl | rfl | rfl:k=0\/k=1\/k=2\/k=3\/k=4\/k=5\/k=6\/k=7\/k=8\/k=9\/k=10\/k=11\/k=12\/k=13\/k=14\/k=15\/k=16\/k=17\/k=18\/k=19\/k=20\/k=21\/k=22\/k=23\/k=24\/k=25\/k=26\/k=27\/k=28\/k=29\/k=30:=by omega
 all_goals rfl
theorem Nv {k:Nat} (h:k<31):CH.draw (96+(k:Int))=CH.Lp k:=by
 unfold CH.draw
 rw [if_neg (by omega),if_pos (by omega)]
 congr 1
 omega
theorem JX {b:Int} (h:b<95\/126<b):CH.draw b=b:=by
 unfold CH.draw
 rw [if_neg (by omega),if_neg (by omega)]
theorem Zn (b:Int) (w:World) (h0:0<=b) (h1:b<256) (hs:Gs w):Calls Tryz.prog 108 #[.int .u8 b] w fun e w'=>e=.returned (.int .i32 (CH.draw b))/\Below w.heap.size w w':=by
 have cs:b=95\/(96<=b/\b<=126)\/b<95\/126<b:=by omega
 rcases cs with rfl | h | h | h
 ·go_enter Tryz.func108,Tryz.ntmps108
  go_wp2
  go_ret
  exact⟨rfl,Below.refl _ _⟩
 ·have hk:(b-96).toNat<31:=by omega
  have hc:=Rf hs (b-96).toNat hk
  have e:=Nv hk
  rw [show(96:Int)+((b-96).toNat:Int)=b from by omega] at e
  have E:=hide e
  clear hs e hk
  generalize CH.Lp (b-96).toNat=x at hc E
  have hb:(b==95)=false:=by simp;omega
  go_enter Tryz.func108,Tryz.ntmps108
  go_wp2
  go_ret
  exact⟨Ck E.out.symm,Below.refl _ _⟩
 ·have E:=hide (JX (b:=b) (by omega))
  have hb:(b==95)=false:=by simp;omega
  go_enter Tryz.func108,Tryz.ntmps108
  go_wp2
  go_ret
  exact⟨Ck E.out.symm,Below.refl _ _⟩
 ·have E:=hide (JX (b:=b) (by omega))
  have hb:(b==95)=false:=by simp;omega
  have hb':96<=b:=by omega
  go_enter Tryz.func108,Tryz.ntmps108
  go_wp2
  go_ret
  exact⟨Ck E.out.symm,Below.refl _ _⟩
end Go.Proofs.YtoaabebgmdbjeaaGreatDoor
namespace Go.Proofs.YtoaabebgmdbjeaaGreatDoor
open Go.RowKit
def NH (l:List Int) (i:Nat):Int:=((PS.pos (l.getD i 0):Nat):Int)
theorem NI {l:List Int} (h:l.length<2):PS.wide l=(none,l.length):=by
 rcases l with _ | ⟨a,_ | ⟨b,l⟩⟩
 ·rfl
 ·rfl
 ·simp only [List.length_cons] at h
  omega
theorem XQ {l:List Int} {x:Int} (h:2<=l.length) (h5:l[0]? =some 5) (hx:NH l 1=x) (h2:255<x):PS.wide l=(none,2):=by
 rcases l with _ | ⟨a,_ | ⟨b,l⟩⟩
 ·simp at h
 ·simp at h
 ·have ha:a=5:=by simpa using h5
  have hb:(PS.pos b:Int)=x:=hx
  subst ha
  rcases l with _ | ⟨c,_ | ⟨d,l⟩⟩
  ·show(if (5:Int)=5/\PS.pos b<=255 then some ((PS.pos b:Nat):Int) else none,2)=_
   rw [if_neg (by omega)]
  ·show(if (5:Int)=5 then (if PS.pos b<=255 then some ((PS.pos b:Nat):Int) else none,2) else (none,3))=_
   rw [if_pos rfl,if_neg (by omega)]
  ·rw [PS.JO,if_pos rfl,if_neg (by omega)]
theorem Rh {l:List Int} {x:Int} (h:2<=l.length) (h5:l[0]? =some 5) (hx:NH l 1=x) (h2:x<=255):PS.wide l=(some x,2):=by
 rcases l with _ | ⟨a,_ | ⟨b,l⟩⟩
 ·simp at h
 ·simp at h
 ·have ha:a=5:=by simpa using h5
  have hb:(PS.pos b:Int)=x:=hx
  subst ha
  rw [PS.XE b (by omega),hb]
theorem UK {l:List Int} {x:Int} (h:2<=l.length) (h0:l[0]? =some x) (h5:x≠5) (h2:l.length<4\/x≠2):PS.wide l=(none,l.length):=by
 rcases l with _ | ⟨a,_ | ⟨b,_ | ⟨c,_ | ⟨d,l⟩⟩⟩⟩
 ·simp at h
 ·simp at h
 ·have ha:a=x:=by simpa using h0
  show(if a=5/\PS.pos b<=255 then some ((PS.pos b:Nat):Int) else none,2)=_
  rw [if_neg (by omega)]
  rfl
 ·have ha:a=x:=by simpa using h0
  show(if a=5 then (if PS.pos b<=255 then some ((PS.pos b:Nat):Int) else none,2) else (none,3))=_
  rw [if_neg (by omega)]
  rfl
 ·have ha:a=x:=by simpa using h0
  have:a≠2:=by
   rcases h2 with h2 | h2
   ·simp only [List.length_cons] at h2
    omega
   ·omega
  rw [PS.JO,if_neg (by omega),if_neg this]
  rfl
theorem Zo {l:List Int} {r g b:Int} (h:4<=l.length) (h0:l[0]? =some 2) (hr:NH l 1=r) (hg:NH l 2=g) (hb:NH l 3=b):PS.wide l=(if r<=255/\g<=255/\b<=255 then some (16777216+r*65536+g*256+b) else none,4):=by
 rcases l with _ | ⟨a,_ | ⟨x,_ | ⟨y,_ | ⟨z,l⟩⟩⟩⟩
 ·simp at h
 ·simp at h
 ·simp at h
 ·simp at h
 ·have ha:a=2:=by simpa using h0
  have e1:(PS.pos x:Int)=r:=hr
  have e2:(PS.pos y:Int)=g:=hg
  have e3:(PS.pos z:Int)=b:=hb
  subst ha
  rw [PS.JO,if_neg (by decide),if_pos rfl,e1,e2,e3]
  by_cases hc:r<=255/\g<=255/\b<=255
  ·rw [if_pos hc,if_pos (by omega)]
  ·rw [if_neg hc,if_neg (by omega)]
end Go.Proofs.YtoaabebgmdbjeaaGreatDoor
namespace Go.Proofs.YtoaabebgmdbjeaaGreatDoor
open Go.RowKit
theorem mh {v u:Value} (h:v=u):Ending.returned v=.returned u:=by rw [h]
theorem Zp (f b g:Int) (A:Option Addr) (n c:Nat) (l:List Int) (w:World) (hA:Seen w w.heap.size A n (l.map (Value.int .i64))) (hn:n<=1099511627776):
  Calls Tryz.prog 227 #[.agg #[.int .i64 f,.int .i64 b,.int .i64 g],.slice A n c] w fun e w'=>e=.returned (.agg #[.int .i64 f,.int .i64 b,.int .i64 (C.ors g l)])/\Below w.heap.size w w':=by
 have hlen:l.length=n:=by simpa using hA.1
 have HA:=hide hA
 have HL:=hide hlen
 clear hA hlen
 go_enter Tryz.func227,Tryz.ntmps227
 go_wp2
 go_loopw [9] (fun i wr=> ∃k:Nat,k<=n/\i=.int .i64 k/\Box wr w.heap.size 38 #[.int .i64 f,.int .i64 b,.int .i64 (C.ors g (l.take k))] /\Box wr (w.heap.size+1) 38 #[.int .i64 0,.int .i64 0,.int .i64 0] /\Below w.heap.size w wr)
  (fun i _=>n-(intOf i).toNat)
 case atStart=>exact⟨0,Nat.zero_le _,rfl,(Box.new w _ _).alloc _,by have h:=Box.new (w.alloc (.cells #[.int .i64 f,.int .i64 b,.int .i64 g] 38)) 38 #[.int .i64 0,.int .i64 0,.int .i64 0];rw [World.size_alloc] at h;exact h,((Below.refl _ _).alloc (Nat.le_refl _) _).alloc (by simp) _⟩
 case round=>
  obtain⟨k,hk,rfl,hb,hr,hbel⟩:=hrel
  by_cases hlt:k<n
  ·obtain⟨ad,u,rfl,_,hu,hc⟩:=(HA.out.below hbel).at_ hlt
   rw [List.getElem?_map] at hu
   obtain⟨x,hx,rfl⟩:=Option.map_eq_some_iff.1 hu
   have ho:=C.YF g (l.take k) x
   rw [show l.take k++ [x] =l.take (k+1) from by rw [List.take_add_one,hx];rfl] at ho
   have HO:=hide ho
   clear hu hx ho
   generalize C.ors g (l.take k)=z at hb HO
   obtain⟨k0,k1,k2,k3,k4,k5⟩:=hb.three
   go_wp2
   go_roundw
   case rel=>
    refine⟨k+1,by omega,by go_num,?_,Box.far hr (by simp) _,hbel.setCell (Nat.le_refl _) _⟩
    rw [HO.out]
    exact hb.set 2 _
   case measure=>simp [intOf];omega
  ·obtain rfl:k=n:=by omega
   rw [List.take_of_length_le (by rw [HL.out];omega)] at hb
   generalize hz:C.ors g l=z at hb
   have HZ:=hide hz
   clear hz
   obtain⟨k0,k1,k2,k3,k4,k5⟩:=hb.three
   obtain⟨j0,j1,j2,j3,j4,j5⟩:=hr.three
   go_wp2
   refine bodyPost_ret (v:=.agg #[.int .i64 f,.int .i64 b,.int .i64 z]) (by simp [results,Tryz.results227,go_sem,j0,j1,j2]) rfl ⟨mh (by rw [HZ.out]),?_⟩
   repeat(first | exact hbel | refine Below.setCell ?_ (by first | omega | (simp;done) | (simp;omega)) _)
end Go.Proofs.YtoaabebgmdbjeaaGreatDoor
namespace Go.Proofs.YtoaabebgmdbjeaaGreatDoor
open Go.RowKit
def Ky:Array Value:= #[.int .i64 0,.int .i64 1,.int .i64 2,.int .i64 4,.int .i64 8,.int .i64 16,.int .i64 0,.int .i64 32,.int .i64 64,.int .i64 128]
def DZ (w:World):Prop:= ∃t,w.heap[6]? =some (.cells Ky t (0,0))
theorem DZ.lt {w:World} (h:DZ w):6<w.heap.size:=by
 obtain⟨t,h⟩:=h
 exact(Array.getElem?_eq_some_iff.1 h).1
theorem DZ.keep {w w':World} (h:DZ w) (hb:Below w.heap.size w w'):DZ w':=by
 have hl:=h.lt
 obtain⟨t,h⟩:=h
 exact⟨t,(hb.block _ hl).trans h⟩
theorem DZ.kept {w w':World} {B:Nat} (h:DZ w) (hb:Below B w w') (hB:6<B):DZ w':=by
 obtain⟨t,h⟩:=h
 exact⟨t,(hb.block _ hB).trans h⟩
theorem DZ.alloc {w:World} (h:DZ w) (o:Obj):DZ (w.alloc o):=h.keep ((Below.refl _ _).alloc (Nat.le_refl _) o)
theorem jk:Tryz.prog.globalNamed "linguist/pen.flags" =some 6:=by kernel_rfl
theorem jl:(Tryz.prog.globals[6]?).map (·.type)=some 218:=by kernel_rfl
theorem UL:tiled Tryz.prog 4 218=true:=by kernel_rfl
theorem XR:flat (H:=Unit) Rows.laid_linguist_pen_flags=some Ky.toList:=by rfl
theorem UM {w:World} {l:List (String × DataW Unit)} (h:laidMet Tryz.prog l w) (hm:("linguist/pen.flags",Rows.laid_linguist_pen_flags)∈l):DZ w:=by
 obtain⟨t,ht⟩:=DV 4 jk jl UL XR (by simp [Ky]) h hm
 exact⟨t,by simpa using ht⟩
theorem Ri {w:World} (h:DZ w) (k:Nat) (hk:k<10):w.cell? ⟨6,k,none⟩=some (.int .i64 (PS.Gx k:Nat)):=by
 obtain⟨t,h⟩:=h
 rw [cell_of_row w _ k _ t (0,0) h]
 obtain rfl | rfl | rfl | rfl | rfl | rfl | rfl | rfl | rfl | rfl:k=0\/k=1\/k=2\/k=3\/k=4\/k=5\/k=6\/k=7\/k=8\/k=9:=by omega
 all_goals rfl
theorem DU (x:Int) (n:Nat) (hn:PS.pos x=n) (h0: -1<=x) (w:World):Calls Tryz.prog 216 #[.int .i64 x] w fun e w'=>e=.returned (.int .i64 (n:Nat))/\w=w':=by
 unfold PS.pos at hn
 by_cases h:x= -1
 ·subst h
  obtain rfl:n=0:=by omega
  clear hn
  go_enter Tryz.func216,Tryz.ntmps216
  go_wp2
  go_ret
  exact⟨rfl,rfl⟩
 ·have q:(x== -1)=false:=by simp;omega
  obtain rfl:x=(n:Int):=by omega
  clear hn h h0
  go_enter Tryz.func216,Tryz.ntmps216
  go_wp2
  go_ret
  exact⟨rfl,rfl⟩
theorem Di (n:Nat) (b:Bool) (hb:decide (n<=255)=b) (hn:n<=9223372036854775807) (w:World):Calls Tryz.prog 226 #[.int .i64 (n:Nat)] w fun e w'=>e=.returned (.bool b)/\w=w':=by
 have e1:IntKind.u8.wrap (n:Int)=((n%256:Nat):Int):=by rw [IntKind.wrap_u8];omega
 have e2:IntKind.i64.wrap ((n%256:Nat):Int)=((n%256:Nat):Int):=IntWalk.i64_in _ (by omega)
 have e3:(((n%256:Nat):Int)==(n:Int))=b:=by
  rw [<- hb,Bool.eq_iff_iff]
  simp
  omega
 have E1:=hide e1
 have E2:=hide e2
 have E3:=hide e3
 clear e1 e2 e3 hb
 go_enter Tryz.func226,Tryz.ntmps226
 go_wp2_with (simp only [E1.out,E2.out])
 go_ret
 exact⟨Ke (by first | exact E3.out | (rw [E1.out];exact E3.out) | (rw [E1.out,E2.out];exact E3.out)),rfl⟩
def UN (c:Int) (n s:Nat):Int:=if s<=n/\n<s+8 then (n:Int)-s else if n=s+9 then-1 else if s+60<=n/\n<s+68 then (n:Int)-s-52 else c
theorem NJ (c:Int) (n s:Nat) (hs:s=30\/s=40) (hn:n<=9223372036854775807) (z:Int) (hz:UN c n s=z) (w:World):Calls Tryz.prog 229 #[.int .i64 c,.int .i64 (n:Nat),.int .i64 (s:Nat)] w fun e w'=>e=.returned (.int .i64 z)/\w=w':=by
 subst hz
 unfold UN
 have cs:n<s\/(s<=n/\n<s+8)\/n=s+8\/n=s+9\/(s+10<=n/\n<s+60)\/(s+60<=n/\n<s+68)\/s+68<=n:=by omega
 rcases cs with h | h | h | h | h | h | h
 ·rw [if_neg (by omega),if_neg (by omega),if_neg (by omega)]
  have q:((n:Int)==(s:Int)+9)=false:=by simp;omega
  rcases hs with rfl | rfl
  all_goals
   go_enter Tryz.func229,Tryz.ntmps229
   go_wp2
   go_ret
   exact⟨rfl,rfl⟩
 ·rw [if_pos (by omega)]
  rcases hs with rfl | rfl
  all_goals
   go_enter Tryz.func229,Tryz.ntmps229
   go_wp2
   go_ret
   exact⟨Ck (by omega),rfl⟩
 ·rw [if_neg (by omega),if_neg (by omega),if_neg (by omega)]
  subst h
  rcases hs with rfl | rfl
  all_goals
   go_enter Tryz.func229,Tryz.ntmps229
   go_wp2
   go_ret
   exact⟨rfl,rfl⟩
 ·rw [if_neg (by omega),if_pos (by omega)]
  subst h
  rcases hs with rfl | rfl
  all_goals
   go_enter Tryz.func229,Tryz.ntmps229
   go_wp2
   go_ret
   exact⟨rfl,rfl⟩
 ·rw [if_neg (by omega),if_neg (by omega),if_neg (by omega)]
  have q:((n:Int)==(s:Int)+9)=false:=by simp;omega
  rcases hs with rfl | rfl
  all_goals
   go_enter Tryz.func229,Tryz.ntmps229
   go_wp2
   go_ret
   exact⟨rfl,rfl⟩
 ·rw [if_neg (by omega),if_neg (by omega),if_pos (by omega)]
  have q:((n:Int)==(s:Int)+9)=false:=by simp;omega
  rcases hs with rfl | rfl
  all_goals
   go_enter Tryz.func229,Tryz.ntmps229
   go_wp2
   go_ret
   exact⟨Ck (by omega),rfl⟩
 ·rw [if_neg (by omega),if_neg (by omega),if_neg (by omega)]
  have q:((n:Int)==(s:Int)+9)=false:=by simp;omega
  rcases hs with rfl | rfl
  all_goals
   go_enter Tryz.func229,Tryz.ntmps229
   go_wp2
   go_ret
   exact⟨rfl,rfl⟩
def tak (n:Nat):Nat:=if n=22 then 3 else PS.Gx (n-20)
theorem jm (n:Nat):tak n<256:=by
 unfold tak
 split
 ·omega
 ·exact PS.Pq _
theorem UO (n z:Nat) (hz:tak n=z) (h0:22<=n) (h1:n<=29) (w:World) (hF:DZ w):Calls Tryz.prog 228 #[.int .i64 (n:Nat)] w fun e w'=>e=.returned (.int .i64 (z:Nat))/\w=w':=by
 subst hz
 unfold tak
 by_cases h:n=22
 ·subst h
  rw [if_pos rfl]
  go_enter Tryz.func228,Tryz.ntmps228
  go_wp2
  go_ret
  exact⟨rfl,rfl⟩
 ·rw [if_neg h]
  obtain⟨k,rfl⟩: ∃k,n=k+20:=⟨n-20,by omega⟩
  rw [show k+20-20=k by omega]
  have hc:=Ri hF k (by omega)
  have q:(((k+20:Nat):Int)==22)=false:=by simp;omega
  have e:((k+20:Nat):Int)-20=(k:Int):=by omega
  generalize PS.Gx k=f at hc
  go_enter Tryz.func228,Tryz.ntmps228
  go_wp2_with (simp only [e])
  go_ret
  exact⟨rfl,rfl⟩
end Go.Proofs.YtoaabebgmdbjeaaGreatDoor
