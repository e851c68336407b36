/- The landed source's withMargins, withoutStops, withModes, keep, told plainly. (written by tools/gensourcekeep.py) -/
import Derived.Test.YtoaabebgmdbjeaaGreatDoorSb18
set_option maxRecDepth 100000
set_option maxHeartbeats 16000000
set_option linter.unusedVariables false
namespace Go.Proofs.YtoaabebgmdbjeaaGreatDoor
open Go Go.RowKit
theorem XM (s:SN.Sc) (v:Value) (k:Int) (z:Nat) (hz:(if k=0 then TB.drop1 s.tabs s.col else if k=3 then 0 else s.tabs)=z) (w:World) (hs:SN.Ac s) (h:IsS w s v):
  Calls Tryz.prog 212 #[v,.int .i64 k] w fun e w'=>e=.returned (.int .u64 (z:Nat))/\Below w.heap.size w w':=by
 obtain⟨x,rfl,hg⟩:=h
 obtain⟨A,cp,rfl⟩:=Ad hg
 have HG:=hide hg
 have hgr:=hs.g.2.1
 have hgc:=hs.g.2.2.2.1
 have hR1:=hs.g.1
 have hK1:=hs.g.2.2.1
 have hrow:=hs.row
 have CJ:=hs.col
 by_cases h0:k=0
 ·subst h0
  rw [if_pos rfl] at hz
  have hz':TB.drops s.tabs [(s.col:Int)] =z:=by
   show(if TB.col (s.col:Int) then TB.drop1 s.tabs (s.col:Int).toNat else s.tabs)=z
   rw [if_pos (by unfold TB.col;omega)]
   exact hz
  have PT:=hide (fun w' (B:Nat) (A:Option Addr) (hA:Seen w' B A 1 [.int .i64 (s.col:Nat)])=>cO s.tabs A 1 1 B [(s.col:Int)] z hz' w' hs.tabs hA (by omega) (fun x hx=>by simp at hx;omega))
  clear hs hg hz hz'
  go_enter Tryz.func212,Tryz.ntmps212
  go_upto_region 1 with (first | (refine BO rfl _ rfl rfl ?_;intro g w1 hB hb1 hg1))
  have k4:w1.cell? ⟨g,4,none⟩=some (.int .i64 (s.col:Nat)):=hB.c4
  have k11:w1.cell? ⟨g,11,none⟩=some (.int .u64 (s.tabs:Nat)):=hB.c11
  clear hB
  go_wp2_with fail
  refine(PT.out _ (w1.heap.size+1) _ (Seen.fresh (w:=w1) (t:=3) (cs:= #[.int .i64 (s.col:Nat)]) rfl rfl rfl rfl)).mono ?_
  rintro e w3 ⟨rfl,rfl⟩
  go_wp2_with fail
  go_ret
  exact⟨rfl,hb1.alloc hb1.size _⟩
 rw [if_neg h0] at hz
 have e0:(k==0)=false:=by simp;omega
 by_cases h3:k=3
 ·subst h3
  rw [if_pos rfl] at hz
  subst hz
  clear hs hg h0 e0
  go_enter Tryz.func212,Tryz.ntmps212
  go_upto_region 1 with (first | (refine BO rfl _ rfl rfl ?_;intro g w1 hB hb1 hg1))
  have k4:w1.cell? ⟨g,4,none⟩=some (.int .i64 (s.col:Nat)):=hB.c4
  have k11:w1.cell? ⟨g,11,none⟩=some (.int .u64 (s.tabs:Nat)):=hB.c11
  clear hB
  go_wp2_with fail
  go_ret
  exact⟨rfl,hb1⟩
 rw [if_neg h3] at hz
 have e3:(k==3)=false:=by simp;omega
 ·subst hz
  clear hs hg h0 h3
  go_enter Tryz.func212,Tryz.ntmps212
  go_upto_region 1 with (first | (refine BO rfl _ rfl rfl ?_;intro g w1 hB hb1 hg1))
  have k4:w1.cell? ⟨g,4,none⟩=some (.int .i64 (s.col:Nat)):=hB.c4
  have k11:w1.cell? ⟨g,11,none⟩=some (.int .u64 (s.tabs:Nat)):=hB.c11
  clear hB
  go_wp2_with fail
  go_ret
  exact⟨rfl,hb1⟩
theorem OH (s:SN.Sc) (v:Value) (on:Bool) (Ae:Option Addr) (n c B:Nat) (l:List Int) (w:World) (hs:SN.Ac s) (hl:Seen w B Ae n (l.map (Value.int .i64))) (hB:B<=w.heap.size) (hn:n<=100) (h:IsS w s v):
  Calls Tryz.prog 138 #[v,.bool on,.slice Ae n c] w (BD w (SN.Ct s on l)):=by
 obtain⟨x,rfl,hg⟩:=h
 obtain⟨A,cp,rfl⟩:=Ad hg
 have HG:=hide hg
 have HS:=hide hs
 have HL:=hide hl
 have hlen:l.length=n:=by have:=hl.1;simpa using this
 have HLN:=hide hlen
 clear hs hg hl hlen
 go_enter Tryz.func138,Tryz.ntmps138
 go_upto_region 1 with (refine Bc HG _ rfl rfl rfl rfl rfl ?_;intro g gR w2 csR hsR HB2 HW2 HR2 HG2 hne hg1 Ai)
 clear HG
 go_wp2_with fail
 go_loopw [11] (fun i wr=> ∃j:Nat,j<=n/\i=.int .i64 j/\Hid (∃A0 c0,Ak wr g (.slice A0 ((SN.Ct s on (l.take j)).g.rows*(SN.Ct s on (l.take j)).g.AB) c0) (SN.Ct s on (l.take j))/\IsG wr (SN.Ct s on (l.take j)).g (gv (SN.Ct s on (l.take j)).g.rows (SN.Ct s on (l.take j)).g.AB (.slice A0 ((SN.Ct s on (l.take j)).g.rows*(SN.Ct s on (l.take j)).g.AB) c0)))/\Hid (Box wr gR 43 csR)/\Hid (Below w.heap.size w wr)) (fun i _=>n-(intOf i).toNat)
 case atStart=>exact⟨0,Nat.zero_le _,rfl,hide ⟨A,cp,(show Ak w2 g _ (SN.Ct s on (l.take 0)) from HB2.out),HG2.out⟩,HR2,HW2⟩
 case round=>
  obtain⟨j,hj,rfl,HX,HR,HW⟩:=hrel
  obtain⟨A4,c4,hB4,hG4⟩:=HX.out
  have HB4:=hide hB4
  have HG4:=hide hG4
  clear HX hB4 hG4 HB2 HR2 HW2 HG2
  by_cases hjn:j<n
  ·obtain⟨ad,u,had,hlt,hu,hcell⟩:=(HL.out.below (HW.out.mono hB)).at_ hjn
   subst had
   rw [List.getElem?_map] at hu
   obtain⟨y,hy,rfl⟩:=Option.map_eq_some_iff.1 hu
   have HY:=hide hy
   clear hu hy
   have HTE:=hide (SN.Tq s on HY.out)
   have MD:=hide (fun w' v' h=>iX (SN.Ct s on (l.take j)) v' y on w' (SN.Hg HS.out on (l.take j)) h)
   rw [<- HTE.out] at MD
   obtain⟨T1,hT1⟩: ∃T1,(SN.Ct s on (l.take (j+1)))=T1:=⟨_,rfl⟩
   obtain⟨T0,hT0⟩: ∃T0,(SN.Ct s on (l.take j))=T0:=⟨_,rfl⟩
   rw [hT1,hT0] at MD
   rw [hT0] at HB4 HG4
   have ET1:=hide hT1
   clear hT1 hT0 HTE
   go_wp2_with (refine AX HB4.out rfl _ rfl rfl ?_)
   refine(MD.out _ _ ⟨_,rfl,HG4.out⟩).mono ?_
   rintro e w5 ⟨v5,rfl,⟨x5,rfl,hg5⟩,hb5⟩
   obtain⟨A5,c5,rfl⟩:=Ad hg5
   have HB5:=hide (HB4.out.below hb5 HB4.out.lt)
   have HR5:=hide (HR.out.below hb5 HR.out.lt)
   have HW5:=hide (HW.out.trans (hb5.mono HW.out.size))
   have HG5:=hide hg5
   clear hg5 hb5 HB4 HG4 HR HW hcell
   go_wp2_with (refine AQ HB5.out rfl rfl _ _ rfl rfl rfl rfl ?_;intro w6 hB6 hk6 hs6)
   go_roundw
   case rel=>
    refine⟨j+1,by omega,by go_num,hide ?_,hide (HR5.out.kept hk6 (by simp;exact hne)),hide (HW5.out.trans (hk6.toBelow HW5.out.size (fun k hh=>by simp at hh;omega)))⟩
    rw [ET1.out]
    exact⟨A5,c5,hB6,HG5.out.kept HB5.out (by decide) hk6⟩
   case measure=>simp [intOf];omega
  ·have hjl:j=n:=by omega
   have HTN:=hide (show(SN.Ct s on (l.take j))=(SN.Ct s on l) by rw [hjl, <- HLN.out,List.take_length])
   obtain⟨TT,hTT⟩: ∃TT,(SN.Ct s on l)=TT:=⟨_,rfl⟩
   rw [HTN.out,hTT] at HB4 HG4
   have ETT:=hide hTT
   clear HTN hTT
   have hjn2: ¬(j:Int)<(n:Int):=by omega
   clear hjl
   go_wp2_with (first | (refine AX HB4.out rfl _ rfl rfl ?_) | (refine AQ HR.out hsR rfl _ _ rfl rfl rfl rfl ?_;intro w8 hB8 hk8 hs8))
   have htt:=ETT.out
   subst htt
   exact BX rfl rfl rfl hB8 HG4 HR HW hk8 Ai
theorem Qv (s t:SN.Sc) (v:Value) (kd rn pv it fn:Int) (Ae:Option Addr) (n c B:Nat) (tx:ByteArray) (l:List Int) (w:World) (hs:SN.Ac s) (hl:Seen w B Ae n (l.map (Value.int .i64))) (hB:B<=w.heap.size) (hn:n<=100) (hnc:n<=c) (hlb: ∀x∈l, -1<=x/\x<=65535) (ht:(if SN.marginTop l<SN.Co s l then SN.I4 ((s.u6 (SN.marginTop l).toNat).u7 (SN.Co s l).toNat) else s)=t) (h:IsS w s v):Calls Tryz.prog 211 #[v,.agg #[.int .i64 kd,.int .i32 rn,.int .u8 pv,.int .u8 it,.int .u8 fn,.slice Ae n c,.string tx]] w (BD w t):=by
 obtain⟨x,rfl,hg⟩:=h
 obtain⟨A,cp,rfl⟩:=Ad hg
 have HG:=hide hg
 have hgr:=hs.g.2.1
 have hgc:=hs.g.2.2.2.1
 have hR1:=hs.g.1
 have hK1:=hs.g.2.2.1
 have hrow:=hs.row
 have CJ:=hs.col
 have a0:=SN.LG hlb 0
 obtain⟨lo,hlo⟩: ∃lo:Nat,SN.Bd l 0 1=(lo:Int)+1:=⟨(SN.Bd l 0 1-1).toNat,by omega⟩
 have b0:1<=min (SN.Bd l 1 s.g.rows) s.g.rows:=by
  unfold SN.Bd
  split<;>omega
 obtain⟨hi,hhi⟩: ∃hi:Nat,min (SN.Bd l 1 s.g.rows) s.g.rows=(hi:Int)+1:=⟨(min (SN.Bd l 1 s.g.rows) s.g.rows-1).toNat,by omega⟩
 have hhR:hi<s.g.rows:=by omega
 have hlm:lo<65536:=by omega
 have NM:=hide (fun w' (hb:Below w.heap.size w w')=>(show Calls Tryz.prog 168 #[.agg #[.int .i64 kd,.int .i32 rn,.int .u8 pv,.int .u8 it,.int .u8 fn,.slice Ae n c,.string tx],.int .i64 0] w' (fun e w''=>e=.returned (.int .i64 ((lo:Int)+1))/\Below w'.heap.size w' w'') from Jv kd rn pv it fn Ae n c B tx l 0 _ hlo w' (hl.below (hb.mono hB)) (Nat.le_trans hB hb.size) hlb))
 have AR:=hide (fun w' (hb:Below w.heap.size w w')=>(show Calls Tryz.prog 117 #[.agg #[.int .i64 kd,.int .i32 rn,.int .u8 pv,.int .u8 it,.int .u8 fn,.slice Ae n c,.string tx],.int .i64 1,.int .i64 (s.g.rows:Nat),.int .i64 1,.int .i64 (s.g.rows:Nat)] w' (fun e w''=>e=.returned (.int .i64 ((hi:Int)+1))/\Below w'.heap.size w' w'') from by
  have:=Ox kd rn pv it fn Ae n c l tx 1 s.g.rows 1 s.g.rows w' ((hl.below (hb.mono hB)).more (Nat.le_trans hB hb.size))
  rw [W9 hlb _ hR1,hhi] at this
  exact this))
 have ht':(if (lo:Int)<(hi:Int) then SN.I4 ((s.u6 lo).u7 hi) else s)=t:=by
  rw [<- ht]
  unfold SN.marginTop SN.Co
  rw [hlo,hhi,Int.add_sub_cancel,Int.add_sub_cancel,Int.toNat_natCast,Int.toNat_natCast]
 clear ht
 have HTE:=hide (fun (e: ¬(lo:Int)<(hi:Int))=>(show s=t by rw [if_neg e] at ht';exact ht'))
 have HTL:=hide (fun (e:(lo:Int)<(hi:Int))=>(show SN.I4 ((s.u6 lo).u7 hi)=t by rw [if_pos e] at ht';exact ht'))
 have ATL:=hide (fun (e:(lo:Int)<(hi:Int)) w' v' h=>(show Calls Tryz.prog 201 #[v'] w' (BD w' t) from HTL.out e▸Qo ((s.u6 lo).u7 hi) v' w' ⟨hs.g,hs.row,hs.col,(show hi<s.g.rows by omega),.inl (show lo<hi by omega),hs.pen,hs.tabs,hs.set,hs.pend,hs.sv⟩ h))
 clear ht' hs hg hl hlb hlo hhi a0 b0
 go_enter Tryz.func211,Tryz.ntmps211
 go_upto_region 1 with (refine Dw HG _ rfl rfl rfl _ rfl rfl (fun _=>rfl) rfl rfl ?_;intro g gE gR w2 csR hsR HB2 HE2 HW2 HR2 HG2 hne FM FN hg1 Ai)
 clear HG
 have k0:=HB2.out.c0
 go_upto_region 2 with fail
 obtain⟨e0,e1,e2,e3,e4,e5,e6⟩:=HE2.out.Bo
 go_simp
 go_cut [6,7] from 11 to 19 (fun u u' wx=>u=.int .i64 (lo:Nat)/\u'=.int .i64 (hi:Nat)/\Below w2.heap.size w2 wx)
 case first=>
  have NMX:=hide (fun w' (hb:Below w2.heap.size w2 w')=>NM.out w' (HW2.out.trans (hb.mono HW2.out.size)))
  have ARX:=hide (fun w' (hb:Below w2.heap.size w2 w')=>AR.out w' (HW2.out.trans (hb.mono HW2.out.size)))
  refine EI (n:=29) [] (fun _=> #[]) [(0,0,0,0,0),(0,0,0,0,0),(0,0,0,0,0),(0,0,0,0,0),(0,0,0,0,0),(0,0,0,0,0),(0,0,0,0,0),(0,0,0,0,0),(0,0,0,0,0),(0,0,0,0,0)] (fun j=> [(.agg #[.int .i64 kd,.int .i32 rn,.int .u8 pv,.int .u8 it,.int .u8 fn,.slice Ae n c,.string tx]),(.int .i64 ((lo:Int)+1)),(.int .i64 (lo:Nat)),(.agg #[.int .i64 kd,.int .i32 rn,.int .u8 pv,.int .u8 it,.int .u8 fn,.slice Ae n c,.string tx]),(.int .i64 (s.g.rows:Nat)),(.int .i64 (s.g.rows:Nat)),(.int .i64 ((hi:Int)+1)),(.int .i64 (hi:Nat)),(.int .i64 (lo:Nat)),(.int .i64 (hi:Nat))].getD j undef) [] (fun _=>0) (by kernel_rfl) (by kernel_rfl) (by kernel_rfl) rfl (by kernel_rfl) (Dt rfl) (fun i j h=>by revert h;exact Dt (p:=fun _=>_) rfl i) (Aj.nil _) (fun hGS=>K6 ⟨?_,?_,?_,?_,?_,?_,?_,?_,?_,?_⟩) ?_
  ·intro L a w' hL hsame hsz hJ AJ hcl
   have hx:=hJ.Ah ((show Box w2 gE 34 #[.int .i64 kd,.int .i32 rn,.int .u8 pv,.int .u8 it,.int .u8 fn,.slice Ae n c,.string tx] from HE2.out)) (by simp)
   have q0:w'.cell? ⟨gE,0,none⟩=some (.int .i64 kd):=hx.cell 0
   have q1:w'.cell? ⟨gE,1,none⟩=some (.int .i32 rn):=hx.cell 1
   have q2:w'.cell? ⟨gE,2,none⟩=some (.int .u8 pv):=hx.cell 2
   have q3:w'.cell? ⟨gE,3,none⟩=some (.int .u8 it):=hx.cell 3
   have q4:w'.cell? ⟨gE,4,none⟩=some (.int .u8 fn):=hx.cell 4
   have q5:w'.cell? ⟨gE,5,none⟩=some (.slice Ae n c):=hx.cell 5
   have q6:w'.cell? ⟨gE,6,none⟩=some (.string tx):=hx.cell 6
   refine BG hJ hGS hcl hL 3 (.pointer (some ⟨gE,0,none⟩)) (.agg #[.int .i64 kd,.int .i32 rn,.int .u8 pv,.int .u8 it,.int .u8 fn,.slice Ae n c,.string tx]) (AY hsame (by kernel_rfl)) _ rfl rfl rfl rfl rfl fun ρ _ e0=>?_
   clear hJ hsame AJ hcl hsz hx
   go_simp
  ·intro L a w' hL hsame hsz hJ AJ hcl
   have hb:=hJ.kept.toBelow (Nat.le_refl _) (by simp)
   have e0:a.eval (.tmp 11)=(.agg #[.int .i64 kd,.int .i32 rn,.int .u8 pv,.int .u8 it,.int .u8 fn,.slice Ae n c,.string tx]):=AU (j:=0) (by kernel_rfl) (hJ.valOf (by decide) (AZ AJ 0 (by kernel_rfl)) rfl rfl)
   refine Step.call _ rfl rfl (AV rfl) 168 #[.agg #[.int .i64 kd,.int .i32 rn,.int .u8 pv,.int .u8 it,.int .u8 fn,.slice Ae n c,.string tx],.int .i64 0] (fun ρ hρ=>?_) ?_
   ·skip
    rw [hρ] at e0
    have ec0:ρ (.const (.int .i64 0))=(.int .i64 0):=(hρ _).symm
    have ef:ρ (.func 168)=.func (.func 168) #[] #[] :=(hρ _).symm
    clear hJ hsame AJ hcl hρ hsz hb
    go_simp
   ·refine(NMX.out _ hb).mono ?_
    rintro e w2 ⟨rfl,bb⟩
    exact⟨_,rfl,hJ.val hGS hcl hL rfl bb _ rfl⟩
  ·intro L a w' hL hsame hsz hJ AJ hcl
   refine BG hJ hGS hcl hL 12 (.int .i64 ((lo:Int)+1)) (.int .i64 (lo:Nat)) (gslot hJ AJ 1 (by kernel_rfl) (by kernel_rfl) (by decide) rfl rfl) _ rfl rfl rfl rfl rfl fun ρ hc e0=>?_
   have ec0:=hc (.int .i64 1)
   clear hJ hsame AJ hcl hsz
   go_simp
   exact IntWalk.i64_in _ (by omega)
  ·intro L a w' hL hsame hsz hJ AJ hcl
   have hx:=hJ.Ah ((show Box w2 gE 34 #[.int .i64 kd,.int .i32 rn,.int .u8 pv,.int .u8 it,.int .u8 fn,.slice Ae n c,.string tx] from HE2.out)) (by simp)
   have q0:w'.cell? ⟨gE,0,none⟩=some (.int .i64 kd):=hx.cell 0
   have q1:w'.cell? ⟨gE,1,none⟩=some (.int .i32 rn):=hx.cell 1
   have q2:w'.cell? ⟨gE,2,none⟩=some (.int .u8 pv):=hx.cell 2
   have q3:w'.cell? ⟨gE,3,none⟩=some (.int .u8 it):=hx.cell 3
   have q4:w'.cell? ⟨gE,4,none⟩=some (.int .u8 fn):=hx.cell 4
   have q5:w'.cell? ⟨gE,5,none⟩=some (.slice Ae n c):=hx.cell 5
   have q6:w'.cell? ⟨gE,6,none⟩=some (.string tx):=hx.cell 6
   refine BG hJ hGS hcl hL 3 (.pointer (some ⟨gE,0,none⟩)) (.agg #[.int .i64 kd,.int .i32 rn,.int .u8 pv,.int .u8 it,.int .u8 fn,.slice Ae n c,.string tx]) (AY hsame (by kernel_rfl)) _ rfl rfl rfl rfl rfl fun ρ _ e0=>?_
   clear hJ hsame AJ hcl hsz hx
   go_simp
  ·intro L a w' hL hsame hsz hJ AJ hcl
   refine BG hJ hGS hcl hL 5 (.int .i64 (s.g.rows:Nat)) (.int .i64 (s.g.rows:Nat)) (AY hsame (by kernel_rfl)) _ rfl rfl rfl rfl rfl fun ρ _ e0=>?_
   clear hJ hsame AJ hcl hsz
   go_simp
  ·intro L a w' hL hsame hsz hJ AJ hcl
   refine BG hJ hGS hcl hL 5 (.int .i64 (s.g.rows:Nat)) (.int .i64 (s.g.rows:Nat)) (AY hsame (by kernel_rfl)) _ rfl rfl rfl rfl rfl fun ρ _ e0=>?_
   clear hJ hsame AJ hcl hsz
   go_simp
  ·intro L a w' hL hsame hsz hJ AJ hcl
   have hb:=hJ.kept.toBelow (Nat.le_refl _) (by simp)
   have e0:a.eval (.tmp 14)=(.agg #[.int .i64 kd,.int .i32 rn,.int .u8 pv,.int .u8 it,.int .u8 fn,.slice Ae n c,.string tx]):=AU (j:=3) (by kernel_rfl) (hJ.valOf (by decide) (AZ AJ 3 (by kernel_rfl)) rfl rfl)
   have e2:a.eval (.tmp 15)=(.int .i64 (s.g.rows:Nat)):=AU (j:=4) (by kernel_rfl) (hJ.valOf (by decide) (AZ AJ 4 (by kernel_rfl)) rfl rfl)
   have e4:a.eval (.tmp 16)=(.int .i64 (s.g.rows:Nat)):=AU (j:=5) (by kernel_rfl) (hJ.valOf (by decide) (AZ AJ 5 (by kernel_rfl)) rfl rfl)
   refine Step.call _ rfl rfl (AV rfl) 117 #[.agg #[.int .i64 kd,.int .i32 rn,.int .u8 pv,.int .u8 it,.int .u8 fn,.slice Ae n c,.string tx],.int .i64 1,.int .i64 (s.g.rows:Nat),.int .i64 1,.int .i64 (s.g.rows:Nat)] (fun ρ hρ=>?_) ?_
   ·skip
    rw [hρ] at e0 e2 e4
    have ec0:ρ (.const (.int .i64 1))=(.int .i64 1):=(hρ _).symm
    have ef:ρ (.func 117)=.func (.func 117) #[] #[] :=(hρ _).symm
    clear hJ hsame AJ hcl hρ hsz hb
    go_simp
   ·refine(ARX.out _ hb).mono ?_
    rintro e w2 ⟨rfl,bb⟩
    exact⟨_,rfl,hJ.val hGS hcl hL rfl bb _ rfl⟩
  ·intro L a w' hL hsame hsz hJ AJ hcl
   refine BG hJ hGS hcl hL 17 (.int .i64 ((hi:Int)+1)) (.int .i64 (hi:Nat)) (gslot hJ AJ 6 (by kernel_rfl) (by kernel_rfl) (by decide) rfl rfl) _ rfl rfl rfl rfl rfl fun ρ hc e0=>?_
   have ec0:=hc (.int .i64 1)
   clear hJ hsame AJ hcl hsz
   go_simp
   exact IntWalk.i64_in _ (by omega)
  ·intro L a w' hL hsame hsz hJ AJ hcl
   refine BG hJ hGS hcl hL 13 (.int .i64 (lo:Nat)) (.int .i64 (lo:Nat)) (gslot hJ AJ 2 (by kernel_rfl) (by kernel_rfl) (by decide) rfl rfl) _ rfl rfl rfl rfl rfl fun ρ _ e0=>?_
   clear hJ hsame AJ hcl hsz
   go_simp
  ·intro L a w' hL hsame hsz hJ AJ hcl
   refine BG hJ hGS hcl hL 18 (.int .i64 (hi:Nat)) (.int .i64 (hi:Nat)) (gslot hJ AJ 7 (by kernel_rfl) (by kernel_rfl) (by decide) rfl rfl) _ rfl rfl rfl rfl rfl fun ρ _ e0=>?_
   clear hJ hsame AJ hcl hsz
   go_simp
  ·intro u w' hF
   change Exit.then _ _ Exit.normal (Act.put (Act.put (Act.put (Act.put (Act.put (Act.put (Act.put (Act.put (Act.put (Act.put (Az _ u 0 _) (some 11) (u 0)) (some 12) (u 1)) (some 13) (u 2)) (some 14) (u 3)) (some 15) (u 4)) (some 16) (u 5)) (some 17) (u 6)) (some 18) (u 7)) (some 6) (u 8)) (some 7) (u 9)) _
   simp only [Az]
   have f8:u 8=.int .i64 (lo:Nat):=hF.Pz (j:=8) (by decide) rfl rfl
   have f9:u 9=.int .i64 (hi:Nat):=hF.Pz (j:=9) (by decide) rfl rfl
   have hk:=hF.kept.toBelow (Nat.le_refl _) (by simp)
   clear hF
   generalize u 0=y0
   generalize u 1=y1
   generalize u 2=y2
   generalize u 3=y3
   generalize u 4=y4
   generalize u 5=y5
   generalize u 6=y6
   generalize u 7=y7
   generalize u 8=y8 at f8⊢
   generalize u 9=y9 at f9⊢
   subst f8 f9
   go_simp
   go_step
   go_meet
   exact⟨rfl,rfl,hk⟩
 case rest=>
  obtain⟨rfl,rfl,hb3⟩:=hcut
  rename World=>w3
  obtain⟨HB3,HR3,HW3,HG3⟩:=Jo hb3 HB2 HR2 HW2 HG2
  have HE3:=hide (HE2.out.below hb3 HE2.out.lt)
  clear k0 e0 e1 e2 e3 e4 e5 e6
  clear HB2 HR2 HW2 HG2 HE2 hb3
  by_cases hcase:(lo:Int)<(hi:Int)
  ·
   have cgt: ¬(hi:Int)<=(lo:Int):=by omega
   have hTT:=HTL.out hcase
   have AT:=hide (ATL.out hcase)
   clear hcase ATL HTL HTE hTT
   have k6:=HB3.out.c6
   have k7:=HB3.out.c7
   have z6:=HB3.out.fz 6
   have z7:=HB3.out.fz 7
   go_upto_region 6 with fail
   have HB4:=hide ((HB3.out.lN lo).lQ hi)
   have HR4:=hide ((HR3.out.far (p:=⟨g,6,none⟩) hne (.int .i64 (lo:Nat))).far (p:=⟨g,7,none⟩) hne (.int .i64 (hi:Nat)))
   have HW4:=hide ((HW3.out.setCell (p:=⟨g,6,none⟩) hg1 (.int .i64 (lo:Nat))).setCell (p:=⟨g,7,none⟩) hg1 (.int .i64 (hi:Nat)))
   have HG4:=hide (IsG.puts (IsG.puts HG3.out HB3.out 6 (.int .i64 (lo:Nat))) (HB3.out.lN lo) 7 (.int .i64 (hi:Nat)))
   generalize ((w3.setCell ⟨g,6,none⟩ (.int .i64 (lo:Nat))).setCell ⟨g,7,none⟩ (.int .i64 (hi:Nat)))=w4 at HB4 HR4 HW4 HG4⊢
   clear k6 k7 z6 z7 HB3 HR3 HW3 HG3 HE3
   go_wp2_with (refine AX HB4.out rfl _ rfl rfl ?_)
   refine(AT.out _ _ ⟨_,rfl,HG4.out⟩).mono (Al HR4 HW4 fun A7 c7 w7 HR7 HW7 HG7=>?_)
   clear HB4 HR4 HW4 HG4
   go_wp2_with (refine AQ HR7.out hsR rfl _ _ rfl rfl rfl rfl ?_;intro w8 hB8 hk8 hs8)
   exact BX rfl rfl rfl hB8 HG7 HR7 HW7 hk8 Ai
  ·
   have cgt:(hi:Int)<=(lo:Int):=by omega
   go_wp2_with (first | (refine AX HB3.out rfl _ rfl rfl ?_) | (refine AQ HR3.out hsR rfl _ _ rfl rfl rfl rfl ?_;intro w8 hB8 hk8 hs8))
   have htt:=HTE.out hcase
   subst htt
   exact BX rfl rfl rfl hB8 HG3 HR3 HW3 hk8 Ai
theorem iq (p q:PG.Pn) (A:Option Addr) (n c B:Nat) (l:List Int) (w:World) (hp:PG.Cv p) (hA:Seen w B A n (l.map (Value.int .i64))) (hn:n<=100) (hnc:n<=c) (hl: ∀x∈l, -1<=x/\x<=65535) (hq:SN.Y2 p l=q) (hF:Df w):
  Calls Tryz.prog 210 #[.agg #[.int .i64 p.1,.int .i64 p.2.1,.int .i64 p.2.2],.slice A n c] w fun e w'=>e=.returned (.agg #[.int .i64 q.1,.int .i64 q.2.1,.int .i64 q.2.2])/\Below w.heap.size w w':=by
 obtain⟨h1,h2,h3,h4⟩:=C.Gl.1 hp
 subst hq
 have hp2:p.2.2=((p.2.2.toNat:Nat):Int):=by omega
 have:=XL ⟨p.1,p.2.1,p.2.2.toNat⟩ _ A n c B l rfl w (show p.2.2.toNat<256 by omega) hA (by omega) hnc (fun x hx=>by have:=hl x hx;omega) hF
 unfold Mh at this
 rw [show((PS.Pn.mk p.1 p.2.1 p.2.2.toNat).fl:Int)=p.2.2 from hp2.symm] at this
 exact this
theorem XO (s t:SN.Sc) (v:Value) (kd rn pv it:Int) (Ae:Option Addr) (n c B:Nat) (tx:ByteArray) (l:List Int) (w:World) (hs:SN.Ac s) (hl:Seen w B Ae n (l.map (Value.int .i64))) (hB:B<=w.heap.size) (hn:n<=100) (hnc:n<=c) (hlb: ∀x∈l, -1<=x/\x<=65535) (hF:Df w) (ht:SN.Fu s 109 l=t) (h:IsS w s v):Calls Tryz.prog 200 #[v,.agg #[.int .i64 kd,.int .i32 rn,.int .u8 pv,.int .u8 it,.int .u8 109,.slice Ae n c,.string tx]] w (BD w t):=by
 obtain⟨x,rfl,hg⟩:=h
 obtain⟨A,cp,rfl⟩:=Ad hg
 have HG:=hide hg
 have hgr:=hs.g.2.1
 have hgc:=hs.g.2.2.2.1
 have hR1:=hs.g.1
 have hK1:=hs.g.2.2.1
 have hrow:=hs.row
 have CJ:=hs.col
 have hW:s.uP (SN.Y2 s.pen l)=t:=ht
 obtain⟨pz,hpz⟩: ∃pz,SN.Y2 s.pen l=pz:=⟨_,rfl⟩
 have AP:=hide (fun w' (hb:Below w.heap.size w w')=>iq s.pen pz Ae n c B l w' hs.pen (hl.below (hb.mono hB)) hn hnc hlb hpz (hF.keep hb))
 rw [hpz] at hW
 have HTT:=hide hW
 clear hW ht hs hg hl hlb hpz hF
 go_enter Tryz.func200,Tryz.ntmps200
 go_upto_region 1 with (refine Dw HG _ rfl rfl rfl _ rfl rfl (fun _=>rfl) rfl rfl ?_;intro g gE gR w2 csR hsR HB2 HE2 HW2 HR2 HG2 hne FM FN hg1 Ai)
 clear HG
 obtain⟨e0,e1,e2,e3,e4,e5,e6⟩:=HE2.out.Bo
 have k8:=HB2.out.c8
 have k9:=HB2.out.c9
 have k10:=HB2.out.c10
 go_wp2_with fail
 refine(AP.out _ HW2.out).mono ?_
 rintro e w3 ⟨rfl,b3⟩
 obtain⟨HB3,HR3,HW3,HG3⟩:=Jo b3 HB2 HR2 HW2 HG2
 have HE3:=hide (HE2.out.below b3 HE2.out.lt)
 clear e0 e1 e2 e3 e4 e5 e6 k8 k9 k10
 clear HB2 HR2 HW2 HG2 HE2 b3
 obtain⟨e0,e1,e2,e3,e4,e5,e6⟩:=HE3.out.Bo
 have k8:=HB3.out.c8
 have k9:=HB3.out.c9
 have k10:=HB3.out.c10
 have z8:=HB3.out.fz 8
 have z9:=HB3.out.fz 9
 have z10:=HB3.out.fz 10
 go_upto_region 12 with fail
 have iw:Kept [some g] w3 (((w3.setCell ⟨g,8,none⟩ (.int .i64 pz.1)).setCell ⟨g,9,none⟩ (.int .i64 pz.2.1)).setCell ⟨g,10,none⟩ (.int .i64 pz.2.2)):=(((Kept.refl [some g] w3).setCell (p:=⟨g,8,none⟩) (From.mem (by simp)) _).setCell (p:=⟨g,9,none⟩) (From.mem (by simp)) _).setCell (p:=⟨g,10,none⟩) (From.mem (by simp)) _
 have HB4:=hide (HB3.out.setP pz)
 have HR4:=hide (HR3.out.kept iw (by simp;exact hne))
 have HW4:=hide (HW3.out.trans (iw.toBelow HW3.out.size (fun k hh=>by simp at hh;omega)))
 have HG4:=hide (HG3.out.kept HB3.out (by decide) iw)
 generalize (((w3.setCell ⟨g,8,none⟩ (.int .i64 pz.1)).setCell ⟨g,9,none⟩ (.int .i64 pz.2.1)).setCell ⟨g,10,none⟩ (.int .i64 pz.2.2))=w4 at HB4 HR4 HW4 HG4⊢
 clear iw z8 z9 z10 HB3 HR3 HW3 HG3 HE3
 clear e0 e1 e2 e3 e4 e5 e6 k8 k9 k10
 go_wp2_with (first | (refine AX HB4.out rfl _ rfl rfl ?_) | (refine AQ HR4.out hsR rfl _ _ rfl rfl rfl rfl ?_;intro w8 hB8 hk8 hs8))
 have htt:=HTT.out
 subst htt
 exact BX rfl rfl rfl hB8 HG4 HR4 HW4 hk8 Ai
theorem XP (s t:SN.Sc) (v:Value) (kd rn pv it:Int) (Ae:Option Addr) (n c B:Nat) (tx:ByteArray) (l:List Int) (w:World) (hs:SN.Ac s) (hl:Seen w B Ae n (l.map (Value.int .i64))) (hB:B<=w.heap.size) (hn:n<=100) (hnc:n<=c) (hlb: ∀x∈l, -1<=x/\x<=65535) (ht:SN.Fu s 114 l=t) (h:IsS w s v):Calls Tryz.prog 200 #[v,.agg #[.int .i64 kd,.int .i32 rn,.int .u8 pv,.int .u8 it,.int .u8 114,.slice Ae n c,.string tx]] w (BD w t):=by
 obtain⟨x,rfl,hg⟩:=h
 obtain⟨A,cp,rfl⟩:=Ad hg
 have HG:=hide hg
 have hgr:=hs.g.2.1
 have hgc:=hs.g.2.2.2.1
 have hR1:=hs.g.1
 have hK1:=hs.g.2.2.1
 have hrow:=hs.row
 have CJ:=hs.col
 have hW:(if SN.marginTop l<SN.Co s l then SN.I4 ((s.u6 (SN.marginTop l).toNat).u7 (SN.Co s l).toNat) else s)=t:=ht
 have AT:=hide (fun w' v' (hb:Below w.heap.size w w') h=>(show Calls Tryz.prog 211 #[v',.agg #[.int .i64 kd,.int .i32 rn,.int .u8 pv,.int .u8 it,.int .u8 114,.slice Ae n c,.string tx]] w' (BD w' t) from Qv s t v' kd rn pv it 114 Ae n c B tx l w' hs (hl.below (hb.mono hB)) (Nat.le_trans hB hb.size) hn hnc hlb hW h))
 clear hW ht hs hg hl hlb
 go_enter Tryz.func200,Tryz.ntmps200
 go_upto_region 1 with (refine Dw HG _ rfl rfl rfl _ rfl rfl (fun _=>rfl) rfl rfl ?_;intro g gE gR w2 csR hsR HB2 HE2 HW2 HR2 HG2 hne FM FN hg1 Ai)
 clear HG
 obtain⟨e0,e1,e2,e3,e4,e5,e6⟩:=HE2.out.Bo
 go_wp2_with (refine AX HB2.out rfl _ rfl rfl ?_)
 refine(AT.out _ _ HW2.out ⟨_,rfl,HG2.out⟩).mono (Al HR2 HW2 fun A7 c7 w7 HR7 HW7 HG7=>?_)
 clear e0 e1 e2 e3 e4 e5 e6
 clear HB2 HR2 HW2 HG2 HE2
 go_wp2_with (refine AQ HR7.out hsR rfl _ _ rfl rfl rfl rfl ?_;intro w8 hB8 hk8 hs8)
 exact BX rfl rfl rfl hB8 HG7 HR7 HW7 hk8 Ai
theorem XQ (s t:SN.Sc) (v:Value) (kd rn pv it:Int) (Ae:Option Addr) (n c B:Nat) (tx:ByteArray) (l:List Int) (w:World) (hs:SN.Ac s) (hl:Seen w B Ae n (l.map (Value.int .i64))) (hB:B<=w.heap.size) (hn:n<=100) (hnc:n<=c) (hlb: ∀x∈l, -1<=x/\x<=65535) (ht:SN.Fu s 103 l=t) (h:IsS w s v):Calls Tryz.prog 200 #[v,.agg #[.int .i64 kd,.int .i32 rn,.int .u8 pv,.int .u8 it,.int .u8 103,.slice Ae n c,.string tx]] w (BD w t):=by
 obtain⟨x,rfl,hg⟩:=h
 obtain⟨A,cp,rfl⟩:=Ad hg
 have HG:=hide hg
 have hgr:=hs.g.2.1
 have hgc:=hs.g.2.2.2.1
 have hR1:=hs.g.1
 have hK1:=hs.g.2.2.1
 have hrow:=hs.row
 have CJ:=hs.col
 have hW:(if SN.Bd l 0 0=0 then s.u11 (TB.drop1 s.tabs s.col) else if SN.Bd l 0 0=3 then s.u11 0 else s)=t:=ht
 obtain⟨k,hk⟩: ∃k,SN.Bd l 0 0=k:=⟨_,rfl⟩
 obtain⟨z,hz⟩: ∃z,(if k=0 then TB.drop1 s.tabs s.col else if k=3 then 0 else s.tabs)=z:=⟨_,rfl⟩
 have HTT:=hide (show s.u11 z=t by
  rw [<- hW, <- hz,hk]
  split
  ·rfl
  split<;>rfl)
 have WH:=hide (fun w' (hb:Below w.heap.size w w')=>Mf kd rn pv it 103 Ae n c B tx l k hk w' (hl.below (hb.mono hB)) (Nat.le_trans hB hb.size) hlb)
 have ST:=hide (fun w' v' h=>XM s v' k z hz w' hs h)
 clear hW ht hs hg hl hlb hk hz
 go_enter Tryz.func200,Tryz.ntmps200
 go_upto_region 1 with (refine Dw HG _ rfl rfl rfl _ rfl rfl (fun _=>rfl) rfl rfl ?_;intro g gE gR w2 csR hsR HB2 HE2 HW2 HR2 HG2 hne FM FN hg1 Ai)
 clear HG
 obtain⟨e0,e1,e2,e3,e4,e5,e6⟩:=HE2.out.Bo
 go_upto_region 7 with fail
 have WHX:=hide (fun w' (hb:Below w2.heap.size w2 w')=>WH.out w' (HW2.out.trans (hb.mono HW2.out.size)))
 have STX:=hide (fun w' (hb:Below w2.heap.size w2 w')=>ST.out w' _ ⟨_,rfl,HG2.out.low hb⟩)
 clear WH ST
 go_simp
 clear e0 e1 e2 e3 e4 e5 e6
 refine Bh (n:=36) 5 [] (fun _=> #[]) [(0,0,0,0,0),(0,0,0,0,0),(0,0,0,0,0),(0,0,0,0,0),(0,0,0,0,0),(0,0,0,0,0)] (fun j=> [(.agg (scA (.slice A (s.g.rows*s.g.AB) cp) s)),(.agg #[.int .i64 kd,.int .i32 rn,.int .u8 pv,.int .u8 it,.int .u8 103,.slice Ae n c,.string tx]),(.int .i64 k),(.int .u64 (z:Nat)),(.pointer (some ⟨g,11,none⟩)),undef].getD j undef) [] (fun _=>0) (by kernel_rfl) (by kernel_rfl) (by kernel_rfl) rfl (by kernel_rfl) (by kernel_rfl) (Dt rfl) (fun i j h=>by revert h;exact Dt (p:=fun _=>_) rfl i) (Aj.nil _) (fun hGS=>OY ⟨?_,?_,?_,?_,?_⟩) ?_
 ·intro L a w' hL hsame hsz hJ AJ hcl
  have hb:=hJ.kept.toBelow (Nat.le_refl _) (by simp)
  have e0:a.eval (.tmp 2)=(.pointer (some ⟨g,0,none⟩)):=AY hsame (by kernel_rfl)
  have hx:=hJ.Ah ((show Box w2 g 43 (scA (.slice A (s.g.rows*s.g.AB) cp) s) from HB2.out)) (by simp)
  exact Step.val _ rfl rfl (AV rfl) (.agg (scA (.slice A (s.g.rows*s.g.AB) cp) s)) w' (fun ρ hρ=>Aq hx rfl ρ _ rfl ((hρ _).symm.trans e0)) (hJ.val hGS hcl hL rfl (Below.refl _ _) _ rfl)
 ·intro L a w' hL hsame hsz hJ AJ hcl
  have hx:=hJ.Ah ((show Box w2 gE 34 #[.int .i64 kd,.int .i32 rn,.int .u8 pv,.int .u8 it,.int .u8 103,.slice Ae n c,.string tx] from HE2.out)) (by simp)
  have q0:w'.cell? ⟨gE,0,none⟩=some (.int .i64 kd):=hx.cell 0
  have q1:w'.cell? ⟨gE,1,none⟩=some (.int .i32 rn):=hx.cell 1
  have q2:w'.cell? ⟨gE,2,none⟩=some (.int .u8 pv):=hx.cell 2
  have q3:w'.cell? ⟨gE,3,none⟩=some (.int .u8 it):=hx.cell 3
  have q4:w'.cell? ⟨gE,4,none⟩=some (.int .u8 103):=hx.cell 4
  have q5:w'.cell? ⟨gE,5,none⟩=some (.slice Ae n c):=hx.cell 5
  have q6:w'.cell? ⟨gE,6,none⟩=some (.string tx):=hx.cell 6
  refine BG hJ hGS hcl hL 3 (.pointer (some ⟨gE,0,none⟩)) (.agg #[.int .i64 kd,.int .i32 rn,.int .u8 pv,.int .u8 it,.int .u8 103,.slice Ae n c,.string tx]) (AY hsame (by kernel_rfl)) _ rfl rfl rfl rfl rfl fun ρ _ e0=>?_
  clear hJ hsame AJ hcl hsz hx
  go_simp
 ·intro L a w' hL hsame hsz hJ AJ hcl
  have hb:=hJ.kept.toBelow (Nat.le_refl _) (by simp)
  have e0:a.eval (.tmp 23)=(.agg #[.int .i64 kd,.int .i32 rn,.int .u8 pv,.int .u8 it,.int .u8 103,.slice Ae n c,.string tx]):=AU (j:=1) (by kernel_rfl) (hJ.valOf (by decide) (AZ AJ 1 (by kernel_rfl)) rfl rfl)
  refine Step.call _ rfl rfl (AV rfl) 194 #[.agg #[.int .i64 kd,.int .i32 rn,.int .u8 pv,.int .u8 it,.int .u8 103,.slice Ae n c,.string tx]] (fun ρ hρ=>?_) ?_
  ·skip
   rw [hρ] at e0
   have ef:ρ (.func 194)=.func (.func 194) #[] #[] :=(hρ _).symm
   clear hJ hsame AJ hcl hρ hsz hb
   go_simp
  ·refine(WHX.out _ hb).mono ?_
   rintro e w2 ⟨rfl,bb⟩
   exact⟨_,rfl,hJ.val hGS hcl hL rfl bb _ rfl⟩
 ·intro L a w' hL hsame hsz hJ AJ hcl
  have hb:=hJ.kept.toBelow (Nat.le_refl _) (by simp)
  have e0:a.eval (.tmp 22)=(.agg (scA (.slice A (s.g.rows*s.g.AB) cp) s)):=AU (j:=0) (by kernel_rfl) (hJ.valOf (by decide) (AZ AJ 0 (by kernel_rfl)) rfl rfl)
  have e1:a.eval (.tmp 24)=(.int .i64 k):=AU (j:=2) (by kernel_rfl) (hJ.valOf (by decide) (AZ AJ 2 (by kernel_rfl)) rfl rfl)
  refine Step.call _ rfl rfl (AV rfl) 212 #[.agg (scA (.slice A (s.g.rows*s.g.AB) cp) s),.int .i64 k] (fun ρ hρ=>?_) ?_
  ·skip
   rw [hρ] at e0 e1
   have ef:ρ (.func 212)=.func (.func 212) #[] #[] :=(hρ _).symm
   clear hJ hsame AJ hcl hρ hsz hb
   go_simp
  ·refine(STX.out _ hb).mono ?_
   rintro e w2 ⟨rfl,bb⟩
   exact⟨_,rfl,hJ.val hGS hcl hL rfl bb _ rfl⟩
 ·intro L a w' hL hsame hsz hJ AJ hcl
  refine BG hJ hGS hcl hL 2 (.pointer (some ⟨g,0,none⟩)) (.pointer (some ⟨g,11,none⟩)) (AY hsame (by kernel_rfl)) _ rfl rfl rfl rfl rfl fun ρ _ e0=>?_
  clear hJ hsame AJ hcl hsz
  go_simp
 ·intro L u w' hF hall
  change wpList _ _ _ _ (Act.put (Act.put (Act.put (Act.put (Act.put (Act.put (Az _ u 0 _) (some 22) (u 0)) (some 23) (u 1)) (some 24) (u 2)) (some 25) (u 3)) (some 26) (u 4)) none (u 5)) _
  simp only [Az]
  have f3:u 3=.int .u64 (z:Nat):=hF.valOf (j:=3) (by decide) (hall 3 (by decide)) rfl rfl
  have f4:u 4=.pointer (some ⟨g,11,none⟩):=hF.valOf (j:=4) (by decide) (hall 4 (by decide)) rfl rfl
  have hk:=hF.kept.toBelow (Nat.le_refl _) (by simp)
  clear hF
  generalize u 0=y0
  generalize u 1=y1
  generalize u 2=y2
  generalize u 3=y3 at f3⊢
  generalize u 4=y4 at f4⊢
  generalize u 5=y5
  subst f3 f4
  simp only [List.drop_succ_cons,List.drop_zero]
  obtain⟨HB3,HR3,HW3,HG3⟩:=Jo hk HB2 HR2 HW2 HG2
  have k11:=HB3.out.c11
  have z11:=HB3.out.fz 11
  clear HB2 HR2 HW2 HG2 HE2 hk
  go_upto_region 12 with fail
  have HB4:=hide (HB3.out.Yq z)
  obtain⟨HR4,HW4,HG4⟩:=EJ 11 (.int .u64 (z:Nat)) HB3 HR3 HW3 HG3 hne hg1
  generalize (w'.setCell ⟨g,11,none⟩ (.int .u64 (z:Nat)))=w4 at HB4 HR4 HW4 HG4⊢
  clear k11 z11 HB3 HR3 HW3 HG3
  go_wp2_with (first | (refine AX HB4.out rfl _ rfl rfl ?_) | (refine AQ HR4.out hsR rfl _ _ rfl rfl rfl rfl ?_;intro w8 hB8 hk8 hs8))
  have htt:=HTT.out
  subst htt
  exact BX rfl rfl rfl hB8 HG4 HR4 HW4 hk8 Ai
theorem XR (s t:SN.Sc) (v:Value) (kd rn pv it:Int) (Ae:Option Addr) (n c B:Nat) (tx:ByteArray) (l:List Int) (w:World) (hs:SN.Ac s) (hl:Seen w B Ae n (l.map (Value.int .i64))) (hB:B<=w.heap.size) (hn:n<=100) (hnc:n<=c) (hlb: ∀x∈l, -1<=x/\x<=65535) (ht:SN.Fu s 115 l=t) (h:IsS w s v):Calls Tryz.prog 200 #[v,.agg #[.int .i64 kd,.int .i32 rn,.int .u8 pv,.int .u8 it,.int .u8 115,.slice Ae n c,.string tx]] w (BD w t):=by
 obtain⟨x,rfl,hg⟩:=h
 obtain⟨A,cp,rfl⟩:=Ad hg
 have HG:=hide hg
 have hgr:=hs.g.2.1
 have hgc:=hs.g.2.2.2.1
 have hR1:=hs.g.1
 have hK1:=hs.g.2.2.1
 have hrow:=hs.row
 have CJ:=hs.col
 have hW:SN.Kn s=t:=ht
 have AT:=hide (fun w' v' h=>(show Calls Tryz.prog 164 #[v'] w' (BD w' t) from hW▸Qp s v' w' hs h))
 clear hW ht hs hg hl hlb
 go_enter Tryz.func200,Tryz.ntmps200
 go_upto_region 1 with (refine Dw HG _ rfl rfl rfl _ rfl rfl (fun _=>rfl) rfl rfl ?_;intro g gE gR w2 csR hsR HB2 HE2 HW2 HR2 HG2 hne FM FN hg1 Ai)
 clear HG
 obtain⟨e0,e1,e2,e3,e4,e5,e6⟩:=HE2.out.Bo
 go_wp2_with (refine AX HB2.out rfl _ rfl rfl ?_)
 refine(AT.out _ _ ⟨_,rfl,HG2.out⟩).mono (Al HR2 HW2 fun A7 c7 w7 HR7 HW7 HG7=>?_)
 clear e0 e1 e2 e3 e4 e5 e6
 clear HB2 HR2 HW2 HG2 HE2
 go_wp2_with (refine AQ HR7.out hsR rfl _ _ rfl rfl rfl rfl ?_;intro w8 hB8 hk8 hs8)
 exact BX rfl rfl rfl hB8 HG7 HR7 HW7 hk8 Ai
theorem XT (s t:SN.Sc) (v:Value) (kd rn pv it:Int) (Ae:Option Addr) (n c B:Nat) (tx:ByteArray) (l:List Int) (w:World) (hs:SN.Ac s) (hl:Seen w B Ae n (l.map (Value.int .i64))) (hB:B<=w.heap.size) (hn:n<=100) (hnc:n<=c) (hlb: ∀x∈l, -1<=x/\x<=65535) (ht:SN.Fu s 117 l=t) (h:IsS w s v):Calls Tryz.prog 200 #[v,.agg #[.int .i64 kd,.int .i32 rn,.int .u8 pv,.int .u8 it,.int .u8 117,.slice Ae n c,.string tx]] w (BD w t):=by
 obtain⟨x,rfl,hg⟩:=h
 obtain⟨A,cp,rfl⟩:=Ad hg
 have HG:=hide hg
 have hgr:=hs.g.2.1
 have hgc:=hs.g.2.2.2.1
 have hR1:=hs.g.1
 have hK1:=hs.g.2.2.1
 have hrow:=hs.row
 have CJ:=hs.col
 have hW:SN.Lx s=t:=ht
 have AT:=hide (fun w' v' h=>(show Calls Tryz.prog 165 #[v'] w' (BD w' t) from hW▸Qq s v' w' hs h))
 clear hW ht hs hg hl hlb
 go_enter Tryz.func200,Tryz.ntmps200
 go_upto_region 1 with (refine Dw HG _ rfl rfl rfl _ rfl rfl (fun _=>rfl) rfl rfl ?_;intro g gE gR w2 csR hsR HB2 HE2 HW2 HR2 HG2 hne FM FN hg1 Ai)
 clear HG
 obtain⟨e0,e1,e2,e3,e4,e5,e6⟩:=HE2.out.Bo
 go_wp2_with (refine AX HB2.out rfl _ rfl rfl ?_)
 refine(AT.out _ _ ⟨_,rfl,HG2.out⟩).mono (Al HR2 HW2 fun A7 c7 w7 HR7 HW7 HG7=>?_)
 clear e0 e1 e2 e3 e4 e5 e6
 clear HB2 HR2 HW2 HG2 HE2
 go_wp2_with (refine AQ HR7.out hsR rfl _ _ rfl rfl rfl rfl ?_;intro w8 hB8 hk8 hs8)
 exact BX rfl rfl rfl hB8 HG7 HR7 HW7 hk8 Ai
theorem Zv (s t:SN.Sc) (v:Value) (kd rn pv it fn:Int) (Ae:Option Addr) (n c B:Nat) (tx:ByteArray) (l:List Int) (w:World) (hs:SN.Ac s) (hl:Seen w B Ae n (l.map (Value.int .i64))) (hB:B<=w.heap.size) (hn:n<=100) (hnc:n<=c) (hlb: ∀x∈l, -1<=x/\x<=65535) (hf:fn≠74/\fn≠75/\fn≠76/\fn≠77/\fn≠64/\fn≠80/\fn≠88/\fn≠83/\fn≠84/\fn≠109/\fn≠114/\fn≠103/\fn≠115/\fn≠117) (ht:SN.Fu s fn l=t) (h:IsS w s v):Calls Tryz.prog 200 #[v,.agg #[.int .i64 kd,.int .i32 rn,.int .u8 pv,.int .u8 it,.int .u8 fn,.slice Ae n c,.string tx]] w (BD w t):=by
 obtain⟨x,rfl,hg⟩:=h
 obtain⟨A,cp,rfl⟩:=Ad hg
 have HG:=hide hg
 have hgr:=hs.g.2.1
 have hgc:=hs.g.2.2.2.1
 have hR1:=hs.g.1
 have hK1:=hs.g.2.2.1
 have hrow:=hs.row
 have CJ:=hs.col
 obtain rfl:s=t:=by
  unfold SN.Fu at ht
  rw [if_neg (by omega),if_neg (by omega),if_neg (by omega),if_neg (by omega),if_neg (by omega),if_neg (by omega),if_neg (by omega),if_neg (by omega),if_neg (by omega),if_neg (by omega),if_neg (by omega),if_neg (by omega),if_neg (by omega),if_neg (by omega)] at ht
  exact ht
 have q109:(fn==109)=false:=by simp;omega
 have q114:(fn==114)=false:=by simp;omega
 have q103:(fn==103)=false:=by simp;omega
 have q115:(fn==115)=false:=by simp;omega
 have q117:(fn==117)=false:=by simp;omega
 clear hs hg hf ht hl hlb
 go_enter Tryz.func200,Tryz.ntmps200
 go_upto_region 1 with (refine Dw HG _ rfl rfl rfl _ rfl rfl (fun _=>rfl) rfl rfl ?_;intro g gE gR w2 csR hsR HB2 HE2 HW2 HR2 HG2 hne FM FN hg1 Ai)
 clear HG
 obtain⟨e0,e1,e2,e3,e4,e5,e6⟩:=HE2.out.Bo
 go_wp2_with (first | (refine AX HB2.out rfl _ rfl rfl ?_) | (refine AQ HR2.out hsR rfl _ _ rfl rfl rfl rfl ?_;intro w8 hB8 hk8 hs8))
 exact BX rfl rfl rfl hB8 HG2 HR2 HW2 hk8 Ai
theorem Zw (s:SN.Sc) (v:Value) (kd rn pv it fn:Int) (Ae:Option Addr) (n c B:Nat) (tx:ByteArray) (l:List Int) (w:World) (hs:SN.Ac s) (hl:Seen w B Ae n (l.map (Value.int .i64))) (hB:B<=w.heap.size) (hn:n<=100) (hnc:n<=c) (hlb: ∀x∈l, -1<=x/\x<=65535) (hF:Df w) (hf:fn≠74/\fn≠75/\fn≠76/\fn≠77/\fn≠64/\fn≠80/\fn≠88/\fn≠83/\fn≠84) (h:IsS w s v):Calls Tryz.prog 200 #[v,.agg #[.int .i64 kd,.int .i32 rn,.int .u8 pv,.int .u8 it,.int .u8 fn,.slice Ae n c,.string tx]] w (BD w (SN.Fu s fn l)):=by
 by_cases h109:fn=109
 ·subst h109;exact XO s _ v kd rn pv it Ae n c B tx l w hs hl hB hn hnc hlb hF rfl h
 by_cases h114:fn=114
 ·subst h114;exact XP s _ v kd rn pv it Ae n c B tx l w hs hl hB hn hnc hlb rfl h
 by_cases h103:fn=103
 ·subst h103;exact XQ s _ v kd rn pv it Ae n c B tx l w hs hl hB hn hnc hlb rfl h
 by_cases h115:fn=115
 ·subst h115;exact XR s _ v kd rn pv it Ae n c B tx l w hs hl hB hn hnc hlb rfl h
 by_cases h117:fn=117
 ·subst h117;exact XT s _ v kd rn pv it Ae n c B tx l w hs hl hB hn hnc hlb rfl h
 exact Zv s _ v kd rn pv it fn Ae n c B tx l w hs hl hB hn hnc hlb ⟨hf.1,hf.2.1,hf.2.2.1,hf.2.2.2.1,hf.2.2.2.2.1,hf.2.2.2.2.2.1,hf.2.2.2.2.2.2.1,hf.2.2.2.2.2.2.2.1,hf.2.2.2.2.2.2.2.2,h109,h114,h103,h115,h117⟩ rfl h
end Go.Proofs.YtoaabebgmdbjeaaGreatDoor
