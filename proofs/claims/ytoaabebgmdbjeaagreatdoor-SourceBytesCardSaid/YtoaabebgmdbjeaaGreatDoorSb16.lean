/- A part of the proof: CursorUse, SourceArg. -/
import Derived.Test.YtoaabebgmdbjeaaGreatDoorSb12
import Derived.Test.YtoaabebgmdbjeaaGreatDoorSb14
import Derived.Test.YtoaabebgmdbjeaaGreatDoorSb15
set_option maxRecDepth 100000
set_option maxHeartbeats 16000000
set_option linter.unusedVariables false
namespace Go.Proofs.YtoaabebgmdbjeaaGreatDoor
open Go Go.RowKit
theorem SN.mh (z:Int) {R:Nat} (h:1<=R):SN.pin (max z 0) R=SN.pin z R:=by
 unfold SN.pin
 omega
theorem SN.Zn (z:Int) {R:Nat} (h:1<=R):SN.pin (min z ((R:Int)-1)) R=SN.pin z R:=by
 unfold SN.pin
 omega
theorem Qm (z:Int) (R p:Nat) (h:1<=R) (hR:R<=1000) (hz: -1099511627776<=z/\z<=1099511627776) (hp:SN.pin z R=p) (w:World):
  Calls Tryz.prog 144 #[.int .i64 z,.int .i64 R] w fun e w'=>e=.returned (.int .i64 p)/\w'=w:=by
 have EP:=hide (show(p:Int)=min (max z 0) ((R:Int)-1) by unfold SN.pin at hp;omega)
 clear hp
 go_enter Tryz.func144,Tryz.ntmps144
 go_wp2_with fail
 all_goals
  have ep:=EP.out
  go_ret
  refine⟨congrArg Ending.returned (congrArg (Value.int .i64) ?_),rfl⟩
  omega
theorem Me (s:SN.Sc) (v:Value) (hs:PG.BL s.g) (w:World) (h:IsS w s v):Calls Tryz.prog 14 #[v] w (BD w s):=
 (ZY s v hs w h).mono fun e w' ⟨x,e1,ho,hb⟩=>⟨_,e1,⟨x,rfl,⟨x,rfl,own_base' ho (Nat.zero_le _)⟩⟩,hb⟩
theorem Es (s:SN.Sc) (v:Value) (hs:SN.Ac s) (w:World) (h:IsS w s v):Calls Tryz.prog 14 #[v] w (BD w s):=Me s v hs.g w h
theorem Zo (s:SN.Sc) (v:Value) (r c:Int) (w:World) (hs:PG.BL s.g) (hr: -1099511627776<=r/\r<=1099511627776) (hc: -1099511627776<=c/\c<=1099511627776) (h:IsS w s v):Calls Tryz.prog 109 #[v,.int .i64 r,.int .i64 c] w (BD w (SN.atS s r c)):=by
 obtain⟨x,rfl,hg⟩:=h
 obtain⟨A,cp,rfl⟩:=Ad hg
 have hgr:=hs.2.1
 have hgc:=hs.2.2.2.1
 have hR1:=hs.1
 have hK1:=hs.2.2.1
 have HG:=hide hg
 obtain⟨p,hp⟩: ∃p,SN.pin r s.g.rows=p:=⟨_,rfl⟩
 obtain⟨q,hq⟩: ∃q,SN.pin c s.g.AB=q:=⟨_,rfl⟩
 have NR:=hide (fun w'=>Qm r s.g.rows p hR1 (by omega) hr hp w')
 have NC:=hide (fun w'=>Qm c s.g.AB q hK1 (by omega) hc hq w')
 have SC:=hide (fun w' v' h=>Me s v' hs w' h)
 have HS:=hide (show((s.u3 p).u4 q).u5 false=SN.atS s r c by unfold SN.atS;rw [hp,hq])
 have HGE:=hide (show(SN.atS s r c).g=s.g from rfl)
 generalize SN.atS s r c=U at HS HGE⊢
 clear hp hq hg
 go_enter Tryz.func109,Tryz.ntmps109
 go_upto_region 1 with (refine Bc HG _ rfl rfl rfl rfl rfl ?_;intro g gR w2 csR hsR HB2 HW2 HR2 HG2 hne hg1 Ai)
 clear HG
 go_wp2_with (refine AX HB2.out rfl _ rfl rfl ?_)
 refine(SC.out _ _ ⟨_,rfl,HG2.out⟩).mono ?_
 rintro e w3 ⟨v3,rfl,⟨x3,rfl,hg3⟩,hb3⟩
 obtain⟨A3,c3,rfl⟩:=Ad hg3
 have HB3:=hide (HB2.out.below hb3 HB2.out.lt)
 have HR3:=hide (HR2.out.below hb3 HR2.out.lt)
 have HW3:=hide (HW2.out.trans (hb3.mono HW2.out.size))
 have HG3:=hide hg3
 clear hb3 hg3 HB2 HR2 HW2 HG2
 go_upto_region 2 with (refine AQ HB3.out rfl rfl _ _ rfl rfl rfl rfl ?_;intro w4 hB4 hk4 hs4)
 have HB4:=hide hB4
 have HR4:=hide (HR3.out.kept hk4 (by simp;exact hne))
 have HW4:=hide (HW3.out.trans (hk4.toBelow HW3.out.size (fun k hh=>by simp at hh;omega)))
 have HG4:=hide (HG3.out.kept HB3.out (by decide) hk4)
 clear hB4 hk4 hs4 HB3 HR3 HW3 HG3
 have k0:w4.cell? ⟨g,0,none⟩=some (.int .i64 (s.g.rows:Nat)):=HB4.out.c0
 have k1:w4.cell? ⟨g,1,none⟩=some (.int .i64 (s.g.AB:Nat)):=HB4.out.c1
 have k3:=HB4.out.c3
 have k4:=HB4.out.c4
 have z3:=HB4.out.fz 3
 have z4:=HB4.out.fz 4
 go_simp
 go_cut [] from 9 to 20 (fun wx=>Ak wx g (.slice A3 (s.g.rows*s.g.AB) c3) ((s.u3 p).u4 q)/\Box wx gR 43 csR/\Below w.heap.size w wx/\IsG wx s.g (gv s.g.rows s.g.AB (.slice A3 (s.g.rows*s.g.AB) c3)))
 case first=>
  go_region_with (first | (go_at_call 144;first | (refine(NR.out _).mono ?_;rintro e w' ⟨rfl,rfl⟩) | (refine(NC.out _).mono ?_;rintro e w' ⟨rfl,rfl⟩)))
  all_goals
   have hk5:Kept [some g] w4 (((w4.setCell ⟨g,3,none⟩ (.int .i64 (p:Nat))).setCell ⟨g,4,none⟩ (.int .i64 (q:Nat))).drew):=(((Kept.refl [some g] w4).setCell (p:=⟨g,3,none⟩) (From.mem (by simp)) (.int .i64 (p:Nat))).setCell (p:=⟨g,4,none⟩) (From.mem (by simp)) (.int .i64 (q:Nat))).drew
   have hB5:Ak (((w4.setCell ⟨g,3,none⟩ (.int .i64 (p:Nat))).setCell ⟨g,4,none⟩ (.int .i64 (q:Nat))).drew) g (.slice A3 (s.g.rows*s.g.AB) c3) ((s.u3 p).u4 q):=Box.drew ((HB4.out.Cu p).Yp q)
   go_wp2_with fail
   go_meet
   exact⟨hB5,HR4.out.kept hk5 (by simp;exact hne),HW4.out.trans (hk5.toBelow HW4.out.size (fun k hh=>by simp at hh;omega)),HG4.out.kept HB4.out (by decide) hk5⟩
 case rest=>
  obtain⟨hB5,hR5,hW5,hG5⟩:=hcut
  rename World=>w5
  have k5:=hB5.c5
  have z5:=hB5.fz 5
  go_upto_region 4 with fail
  have HB6:=hide (hB5.KE false)
  have HR6:=hide (hR5.far (p:=⟨g,5,none⟩) hne (.bool false))
  have HW6:=hide (hW5.setCell (p:=⟨g,5,none⟩) hg1 (.bool false))
  have HG6:=hide (IsG.puts hG5 hB5 5 (.bool false))
  generalize (w5.setCell ⟨g,5,none⟩ (.bool false))=w6 at HB6 HR6 HW6 HG6⊢
  clear k5 z5 hB5 hR5 hW5 hG5
  go_wp2_with (first | (refine AX HB6.out rfl _ rfl rfl ?_) | (refine AQ HR6.out hsR rfl _ _ rfl rfl rfl rfl ?_;intro w8 hB8 hk8 hs8))
  refine bodyPost_ret (Cb rfl rfl hB8) rfl ⟨_,rfl,⟨_,by rw [<- HS.out],?_⟩,HW6.out.trans (hk8.toBelow HW6.out.size (fun k hh=>by simp at hh;omega))⟩
  rw [HGE.out]
  exact HG6.out.kept HR6.out (by decide) hk8
theorem FH (s:SN.Sc) (v:Value) (r c:Int) (w:World) (hs:SN.Ac s) (hr: -1099511627776<=r/\r<=1099511627776) (hc: -1099511627776<=c/\c<=1099511627776) (h:IsS w s v):Calls Tryz.prog 109 #[v,.int .i64 r,.int .i64 c] w (BD w (SN.atS s r c)):=Zo s v r c w hs.g hr hc h
theorem SN.qc {s:SN.Sc} (h:SN.Ac s) (n:Nat):SN.atS s (max ((s.row:Int)-n) (if s.top<=s.row then (s.top:Int) else 0)) s.col=SN.upS s n:=by
 unfold SN.upS SN.upR
 split
 ·rfl
 ·unfold SN.atS
  rw [SN.mh _ h.g.1]
theorem SN.iT {s:SN.Sc} (h:SN.Ac s) (n:Nat):SN.atS s (min ((s.row:Int)+n) (if s.row<=s.bot then (s.bot:Int) else (s.g.rows:Int)-1)) s.col=SN.Iz s n:=by
 unfold SN.Iz SN.Uk
 split
 ·rfl
 ·unfold SN.atS
  rw [SN.Zn _ h.g.1]
theorem Zp (s:SN.Sc) (v:Value) (n:Nat) (w:World) (hn:n<=65535) (hs:SN.Ac s) (h:IsS w s v):Calls Tryz.prog 169 #[v,.int .i64 n] w (BD w (SN.upS s n)):=by
 obtain⟨x,rfl,hg⟩:=h
 obtain⟨A,cp,rfl⟩:=Ad hg
 have hgr:=hs.g.2.1
 have hgc:=hs.g.2.2.2.1
 have hR1:=hs.g.1
 have hK1:=hs.g.2.2.1
 have HG:=hide hg
 have hrow:=hs.row
 have CJ:=hs.col
 have htop:=SN.DZ hs
 have JQ:=hs.bot
 have hU:=SN.qc hs n
 obtain⟨z,hz⟩: ∃z,max ((s.row:Int)-n) (if s.top<=s.row then (s.top:Int) else 0)=z:=⟨_,rfl⟩
 rw [hz] at hU
 have hzb: -1099511627776<=z/\z<=1099511627776:=by
  rw [<- hz]
  split<;>omega
 have AT:=hide (fun w' v' h=>FH s v' z s.col w' hs hzb (by omega) h)
 rw [hU] at AT
 generalize SN.upS s n=U at AT⊢
 clear hU hg hzb hs
 by_cases hc:s.top<=s.row
 ·have e1:(s.top:Int)<=(s.row:Int):=by omega
  rw [if_pos hc] at hz
  by_cases hm:(s.row:Int)-n<(s.top:Int)
  ·obtain rfl:(s.top:Int)=z:=by omega
   clear hz
   go_enter Tryz.func169,Tryz.ntmps169
   go_upto_region 1 with (refine Bc HG _ rfl rfl rfl rfl rfl ?_;intro g gR w2 csR hsR HB2 HW2 HR2 HG2 hne hg1 Ai)
   clear HG
   have k3:w2.cell? ⟨g,3,none⟩=some (.int .i64 (s.row:Nat)):=HB2.out.c3
   have k4:w2.cell? ⟨g,4,none⟩=some (.int .i64 (s.col:Nat)):=HB2.out.c4
   have k6:w2.cell? ⟨g,6,none⟩=some (.int .i64 (s.top:Nat)):=HB2.out.c6
   go_wp2_with (refine AX HB2.out rfl _ rfl rfl ?_)
   refine(AT.out _ _ ⟨_,rfl,HG2.out⟩).mono (Al HR2 HW2 fun A7 c7 w7 HR7 HW7 HG7=>?_)
   clear HB2 HR2 HW2 HG2
   go_wp2_with (refine AQ HR7.out hsR rfl _ _ rfl rfl rfl rfl ?_;intro w8 hB8 hk8 hs8)
   exact BX rfl rfl rfl hB8 HG7 HR7 HW7 hk8 Ai
  ·obtain rfl:(s.row:Int)-n=z:=by omega
   clear hz
   go_enter Tryz.func169,Tryz.ntmps169
   go_upto_region 1 with (refine Bc HG _ rfl rfl rfl rfl rfl ?_;intro g gR w2 csR hsR HB2 HW2 HR2 HG2 hne hg1 Ai)
   clear HG
   have k3:w2.cell? ⟨g,3,none⟩=some (.int .i64 (s.row:Nat)):=HB2.out.c3
   have k4:w2.cell? ⟨g,4,none⟩=some (.int .i64 (s.col:Nat)):=HB2.out.c4
   have k6:w2.cell? ⟨g,6,none⟩=some (.int .i64 (s.top:Nat)):=HB2.out.c6
   go_wp2_with (refine AX HB2.out rfl _ rfl rfl ?_)
   refine(AT.out _ _ ⟨_,rfl,HG2.out⟩).mono (Al HR2 HW2 fun A7 c7 w7 HR7 HW7 HG7=>?_)
   clear HB2 HR2 HW2 HG2
   go_wp2_with (refine AQ HR7.out hsR rfl _ _ rfl rfl rfl rfl ?_;intro w8 hB8 hk8 hs8)
   exact BX rfl rfl rfl hB8 HG7 HR7 HW7 hk8 Ai
 ·have e1: ¬((s.top:Int)<=(s.row:Int)):=by omega
  rw [if_neg hc] at hz
  by_cases hm:(s.row:Int)-n<0
  ·obtain rfl:0=z:=by omega
   clear hz
   go_enter Tryz.func169,Tryz.ntmps169
   go_upto_region 1 with (refine Bc HG _ rfl rfl rfl rfl rfl ?_;intro g gR w2 csR hsR HB2 HW2 HR2 HG2 hne hg1 Ai)
   clear HG
   have k3:w2.cell? ⟨g,3,none⟩=some (.int .i64 (s.row:Nat)):=HB2.out.c3
   have k4:w2.cell? ⟨g,4,none⟩=some (.int .i64 (s.col:Nat)):=HB2.out.c4
   have k6:w2.cell? ⟨g,6,none⟩=some (.int .i64 (s.top:Nat)):=HB2.out.c6
   go_wp2_with (refine AX HB2.out rfl _ rfl rfl ?_)
   refine(AT.out _ _ ⟨_,rfl,HG2.out⟩).mono (Al HR2 HW2 fun A7 c7 w7 HR7 HW7 HG7=>?_)
   clear HB2 HR2 HW2 HG2
   go_wp2_with (refine AQ HR7.out hsR rfl _ _ rfl rfl rfl rfl ?_;intro w8 hB8 hk8 hs8)
   exact BX rfl rfl rfl hB8 HG7 HR7 HW7 hk8 Ai
  ·obtain rfl:(s.row:Int)-n=z:=by omega
   clear hz
   go_enter Tryz.func169,Tryz.ntmps169
   go_upto_region 1 with (refine Bc HG _ rfl rfl rfl rfl rfl ?_;intro g gR w2 csR hsR HB2 HW2 HR2 HG2 hne hg1 Ai)
   clear HG
   have k3:w2.cell? ⟨g,3,none⟩=some (.int .i64 (s.row:Nat)):=HB2.out.c3
   have k4:w2.cell? ⟨g,4,none⟩=some (.int .i64 (s.col:Nat)):=HB2.out.c4
   have k6:w2.cell? ⟨g,6,none⟩=some (.int .i64 (s.top:Nat)):=HB2.out.c6
   go_wp2_with (refine AX HB2.out rfl _ rfl rfl ?_)
   refine(AT.out _ _ ⟨_,rfl,HG2.out⟩).mono (Al HR2 HW2 fun A7 c7 w7 HR7 HW7 HG7=>?_)
   clear HB2 HR2 HW2 HG2
   go_wp2_with (refine AQ HR7.out hsR rfl _ _ rfl rfl rfl rfl ?_;intro w8 hB8 hk8 hs8)
   exact BX rfl rfl rfl hB8 HG7 HR7 HW7 hk8 Ai
theorem Qn (s:SN.Sc) (v:Value) (n:Nat) (w:World) (hn:n<=65535) (hs:SN.Ac s) (h:IsS w s v):Calls Tryz.prog 170 #[v,.int .i64 n] w (BD w (SN.Iz s n)):=by
 obtain⟨x,rfl,hg⟩:=h
 obtain⟨A,cp,rfl⟩:=Ad hg
 have hgr:=hs.g.2.1
 have hgc:=hs.g.2.2.2.1
 have hR1:=hs.g.1
 have hK1:=hs.g.2.2.1
 have HG:=hide hg
 have hrow:=hs.row
 have CJ:=hs.col
 have htop:=SN.DZ hs
 have JQ:=hs.bot
 have hU:=SN.iT hs n
 obtain⟨z,hz⟩: ∃z,min ((s.row:Int)+n) (if s.row<=s.bot then (s.bot:Int) else (s.g.rows:Int)-1)=z:=⟨_,rfl⟩
 rw [hz] at hU
 have hzb: -1099511627776<=z/\z<=1099511627776:=by
  rw [<- hz]
  split<;>omega
 have AT:=hide (fun w' v' h=>FH s v' z s.col w' hs hzb (by omega) h)
 rw [hU] at AT
 generalize SN.Iz s n=U at AT⊢
 clear hU hg hzb hs
 by_cases hc:s.row<=s.bot
 ·have e1:(s.row:Int)<=(s.bot:Int):=by omega
  rw [if_pos hc] at hz
  by_cases hm:(s.bot:Int)<(s.row:Int)+n
  ·obtain rfl:(s.bot:Int)=z:=by omega
   clear hz
   go_enter Tryz.func170,Tryz.ntmps170
   go_upto_region 1 with (refine Bc HG _ rfl rfl rfl rfl rfl ?_;intro g gR w2 csR hsR HB2 HW2 HR2 HG2 hne hg1 Ai)
   clear HG
   have k0:w2.cell? ⟨g,0,none⟩=some (.int .i64 (s.g.rows:Nat)):=HB2.out.c0
   have k3:w2.cell? ⟨g,3,none⟩=some (.int .i64 (s.row:Nat)):=HB2.out.c3
   have k4:w2.cell? ⟨g,4,none⟩=some (.int .i64 (s.col:Nat)):=HB2.out.c4
   have k7:w2.cell? ⟨g,7,none⟩=some (.int .i64 (s.bot:Nat)):=HB2.out.c7
   go_wp2_with (refine AX HB2.out rfl _ rfl rfl ?_)
   refine(AT.out _ _ ⟨_,rfl,HG2.out⟩).mono (Al HR2 HW2 fun A7 c7 w7 HR7 HW7 HG7=>?_)
   clear HB2 HR2 HW2 HG2
   go_wp2_with (refine AQ HR7.out hsR rfl _ _ rfl rfl rfl rfl ?_;intro w8 hB8 hk8 hs8)
   exact BX rfl rfl rfl hB8 HG7 HR7 HW7 hk8 Ai
  ·obtain rfl:(s.row:Int)+n=z:=by omega
   clear hz
   go_enter Tryz.func170,Tryz.ntmps170
   go_upto_region 1 with (refine Bc HG _ rfl rfl rfl rfl rfl ?_;intro g gR w2 csR hsR HB2 HW2 HR2 HG2 hne hg1 Ai)
   clear HG
   have k0:w2.cell? ⟨g,0,none⟩=some (.int .i64 (s.g.rows:Nat)):=HB2.out.c0
   have k3:w2.cell? ⟨g,3,none⟩=some (.int .i64 (s.row:Nat)):=HB2.out.c3
   have k4:w2.cell? ⟨g,4,none⟩=some (.int .i64 (s.col:Nat)):=HB2.out.c4
   have k7:w2.cell? ⟨g,7,none⟩=some (.int .i64 (s.bot:Nat)):=HB2.out.c7
   go_wp2_with (refine AX HB2.out rfl _ rfl rfl ?_)
   refine(AT.out _ _ ⟨_,rfl,HG2.out⟩).mono (Al HR2 HW2 fun A7 c7 w7 HR7 HW7 HG7=>?_)
   clear HB2 HR2 HW2 HG2
   go_wp2_with (refine AQ HR7.out hsR rfl _ _ rfl rfl rfl rfl ?_;intro w8 hB8 hk8 hs8)
   exact BX rfl rfl rfl hB8 HG7 HR7 HW7 hk8 Ai
 ·have e1: ¬((s.row:Int)<=(s.bot:Int)):=by omega
  rw [if_neg hc] at hz
  by_cases hm:(s.g.rows:Int)-1<(s.row:Int)+n
  ·obtain rfl:(s.g.rows:Int)-1=z:=by omega
   clear hz
   go_enter Tryz.func170,Tryz.ntmps170
   go_upto_region 1 with (refine Bc HG _ rfl rfl rfl rfl rfl ?_;intro g gR w2 csR hsR HB2 HW2 HR2 HG2 hne hg1 Ai)
   clear HG
   have k0:w2.cell? ⟨g,0,none⟩=some (.int .i64 (s.g.rows:Nat)):=HB2.out.c0
   have k3:w2.cell? ⟨g,3,none⟩=some (.int .i64 (s.row:Nat)):=HB2.out.c3
   have k4:w2.cell? ⟨g,4,none⟩=some (.int .i64 (s.col:Nat)):=HB2.out.c4
   have k7:w2.cell? ⟨g,7,none⟩=some (.int .i64 (s.bot:Nat)):=HB2.out.c7
   go_wp2_with (refine AX HB2.out rfl _ rfl rfl ?_)
   refine(AT.out _ _ ⟨_,rfl,HG2.out⟩).mono (Al HR2 HW2 fun A7 c7 w7 HR7 HW7 HG7=>?_)
   clear HB2 HR2 HW2 HG2
   go_wp2_with (refine AQ HR7.out hsR rfl _ _ rfl rfl rfl rfl ?_;intro w8 hB8 hk8 hs8)
   exact BX rfl rfl rfl hB8 HG7 HR7 HW7 hk8 Ai
  ·obtain rfl:(s.row:Int)+n=z:=by omega
   clear hz
   go_enter Tryz.func170,Tryz.ntmps170
   go_upto_region 1 with (refine Bc HG _ rfl rfl rfl rfl rfl ?_;intro g gR w2 csR hsR HB2 HW2 HR2 HG2 hne hg1 Ai)
   clear HG
   have k0:w2.cell? ⟨g,0,none⟩=some (.int .i64 (s.g.rows:Nat)):=HB2.out.c0
   have k3:w2.cell? ⟨g,3,none⟩=some (.int .i64 (s.row:Nat)):=HB2.out.c3
   have k4:w2.cell? ⟨g,4,none⟩=some (.int .i64 (s.col:Nat)):=HB2.out.c4
   have k7:w2.cell? ⟨g,7,none⟩=some (.int .i64 (s.bot:Nat)):=HB2.out.c7
   go_wp2_with (refine AX HB2.out rfl _ rfl rfl ?_)
   refine(AT.out _ _ ⟨_,rfl,HG2.out⟩).mono (Al HR2 HW2 fun A7 c7 w7 HR7 HW7 HG7=>?_)
   clear HB2 HR2 HW2 HG2
   go_wp2_with (refine AQ HR7.out hsR rfl _ _ rfl rfl rfl rfl ?_;intro w8 hB8 hk8 hs8)
   exact BX rfl rfl rfl hB8 HG7 HR7 HW7 hk8 Ai
theorem Oz (s:SN.Sc) (v:Value) (r c:Int) (w:World) (hs:SN.Ac s) (hr: -1073741824<=r/\r<=1073741824) (hc: -1073741824<=c/\c<=1073741824) (h:IsS w s v):Calls Tryz.prog 171 #[v,.int .i64 r,.int .i64 c] w (BD w (SN.goS s r c)):=by
 obtain⟨x,rfl,hg⟩:=h
 obtain⟨A,cp,rfl⟩:=Ad hg
 have hgr:=hs.g.2.1
 have hgc:=hs.g.2.2.2.1
 have hR1:=hs.g.1
 have hK1:=hs.g.2.2.1
 have HG:=hide hg
 have hrow:=hs.row
 have CJ:=hs.col
 have htop:=SN.DZ hs
 have JQ:=hs.bot
 have hU:SN.atS s (SN.goR s r) c=SN.goS s r c:=rfl
 obtain⟨z,hz⟩: ∃z,SN.goR s r=z:=⟨_,rfl⟩
 rw [hz] at hU
 unfold SN.goR at hz
 have hzb: -1099511627776<=z/\z<=1099511627776:=by
  rw [<- hz]
  split<;>omega
 have AT:=hide (fun w' v' h=>FH s v' z c w' hs hzb (by omega) h)
 rw [hU] at AT
 generalize SN.goS s r c=U at AT⊢
 clear hU hg hzb hs
 cases hO:s.org with
 | false=>
  rw [hO,if_neg (by decide)] at hz
  subst hz
  go_enter Tryz.func171,Tryz.ntmps171
  go_upto_region 1 with (refine Bc HG _ rfl rfl rfl rfl rfl ?_;intro g gR w2 csR hsR HB2 HW2 HR2 HG2 hne hg1 Ai)
  clear HG
  have k16:w2.cell? ⟨g,16,none⟩=some (.bool false):=HB2.out.c16.trans (by rw [hO])
  go_wp2_with (refine AX HB2.out rfl _ rfl rfl ?_)
  refine(AT.out _ _ ⟨_,rfl,HG2.out⟩).mono (Al HR2 HW2 fun A7 c7 w7 HR7 HW7 HG7=>?_)
  clear HB2 HR2 HW2 HG2
  go_wp2_with (refine AQ HR7.out hsR rfl _ _ rfl rfl rfl rfl ?_;intro w8 hB8 hk8 hs8)
  exact BX rfl rfl rfl hB8 HG7 HR7 HW7 hk8 Ai
 | true=>
  rw [hO,if_pos rfl] at hz
  by_cases hm:(s.bot:Int)<(s.top:Int)+r
  ·obtain rfl:(s.bot:Int)=z:=by omega
   clear hz
   go_enter Tryz.func171,Tryz.ntmps171
   go_upto_region 1 with (refine Bc HG _ rfl rfl rfl rfl rfl ?_;intro g gR w2 csR hsR HB2 HW2 HR2 HG2 hne hg1 Ai)
   clear HG
   have k16:w2.cell? ⟨g,16,none⟩=some (.bool true):=HB2.out.c16.trans (by rw [hO])
   have k6:w2.cell? ⟨g,6,none⟩=some (.int .i64 (s.top:Nat)):=HB2.out.c6
   have k7:w2.cell? ⟨g,7,none⟩=some (.int .i64 (s.bot:Nat)):=HB2.out.c7
   go_upto_region 3 with fail
   go_wp2_with (refine AX HB2.out rfl _ rfl rfl ?_)
   refine(AT.out _ _ ⟨_,rfl,HG2.out⟩).mono (Al HR2 HW2 fun A7 c7 w7 HR7 HW7 HG7=>?_)
   clear HB2 HR2 HW2 HG2
   go_wp2_with (refine AQ HR7.out hsR rfl _ _ rfl rfl rfl rfl ?_;intro w8 hB8 hk8 hs8)
   exact BX rfl rfl rfl hB8 HG7 HR7 HW7 hk8 Ai
  ·obtain rfl:(s.top:Int)+r=z:=by omega
   clear hz
   go_enter Tryz.func171,Tryz.ntmps171
   go_upto_region 1 with (refine Bc HG _ rfl rfl rfl rfl rfl ?_;intro g gR w2 csR hsR HB2 HW2 HR2 HG2 hne hg1 Ai)
   clear HG
   have k16:w2.cell? ⟨g,16,none⟩=some (.bool true):=HB2.out.c16.trans (by rw [hO])
   have k6:w2.cell? ⟨g,6,none⟩=some (.int .i64 (s.top:Nat)):=HB2.out.c6
   have k7:w2.cell? ⟨g,7,none⟩=some (.int .i64 (s.bot:Nat)):=HB2.out.c7
   go_upto_region 3 with fail
   go_wp2_with (refine AX HB2.out rfl _ rfl rfl ?_)
   refine(AT.out _ _ ⟨_,rfl,HG2.out⟩).mono (Al HR2 HW2 fun A7 c7 w7 HR7 HW7 HG7=>?_)
   clear HB2 HR2 HW2 HG2
   go_wp2_with (refine AQ HR7.out hsR rfl _ _ rfl rfl rfl rfl ?_;intro w8 hB8 hk8 hs8)
   exact BX rfl rfl rfl hB8 HG7 HR7 HW7 hk8 Ai
theorem Qo (s:SN.Sc) (v:Value) (w:World) (hs:SN.Ac s) (h:IsS w s v):Calls Tryz.prog 201 #[v] w (BD w (SN.I4 s)):=by
 obtain⟨x,rfl,hg⟩:=h
 obtain⟨A,cp,rfl⟩:=Ad hg
 have hgr:=hs.g.2.1
 have hgc:=hs.g.2.2.2.1
 have hR1:=hs.g.1
 have hK1:=hs.g.2.2.1
 have HG:=hide hg
 have hrow:=hs.row
 have CJ:=hs.col
 have htop:=SN.DZ hs
 have JQ:=hs.bot
 have AT:=hide (fun w' v' h=>(show Calls Tryz.prog 171 #[v',.int .i64 0,.int .i64 0] w' (BD w' (SN.I4 s)) from Oz s v' 0 0 w' hs (by omega) (by omega) h))
 generalize SN.I4 s=U at AT⊢
 clear hg hs
 go_enter Tryz.func201,Tryz.ntmps201
 go_upto_region 1 with (refine Bc HG _ rfl rfl rfl rfl rfl ?_;intro g gR w2 csR hsR HB2 HW2 HR2 HG2 hne hg1 Ai)
 clear HG
 go_wp2_with (refine AX HB2.out rfl _ rfl rfl ?_)
 refine(AT.out _ _ ⟨_,rfl,HG2.out⟩).mono (Al HR2 HW2 fun A7 c7 w7 HR7 HW7 HG7=>?_)
 clear HB2 HR2 HW2 HG2
 go_wp2_with (refine AQ HR7.out hsR rfl _ _ rfl rfl rfl rfl ?_;intro w8 hB8 hk8 hs8)
 exact BX rfl rfl rfl hB8 HG7 HR7 HW7 hk8 Ai
theorem Qp (s:SN.Sc) (v:Value) (w:World) (hs:SN.Ac s) (h:IsS w s v):Calls Tryz.prog 164 #[v] w (BD w (SN.Kn s)):=by
 obtain⟨x,rfl,hg⟩:=h
 obtain⟨A,cp,rfl⟩:=Ad hg
 have hgr:=hs.g.2.1
 have hgc:=hs.g.2.2.2.1
 have hR1:=hs.g.1
 have hK1:=hs.g.2.2.1
 have HG:=hide hg
 have SC:=hide (fun w' v' h=>Es s v' hs w' h)
 have HS:=hide (show s.uV (SN.lS s)=SN.Kn s from rfl)
 have HGE:=hide (show(SN.Kn s).g=s.g from rfl)
 generalize SN.Kn s=U at HS HGE⊢
 clear hg hs
 go_enter Tryz.func164,Tryz.ntmps164
 go_upto_region 1 with (refine Bc HG _ rfl rfl rfl rfl rfl ?_;intro g gR w2 csR hsR HB2 HW2 HR2 HG2 hne hg1 Ai)
 clear HG
 go_wp2_with (refine AX HB2.out rfl _ rfl rfl ?_)
 refine(SC.out _ _ ⟨_,rfl,HG2.out⟩).mono ?_
 rintro e w3 ⟨v3,rfl,⟨x3,rfl,hg3⟩,hb3⟩
 obtain⟨A3,c3,rfl⟩:=Ad hg3
 have HB3:=hide (HB2.out.below hb3 HB2.out.lt)
 have HR3:=hide (HR2.out.below hb3 HR2.out.lt)
 have HW3:=hide (HW2.out.trans (hb3.mono HW2.out.size))
 have HG3:=hide hg3
 clear hb3 hg3 HB2 HR2 HW2 HG2
 go_upto_region 2 with (refine AQ HB3.out rfl rfl _ _ rfl rfl rfl rfl ?_;intro w4 hB4 hk4 hs4)
 have HB4:=hide hB4
 have HR4:=hide (HR3.out.kept hk4 (by simp;exact hne))
 have HW4:=hide (HW3.out.trans (hk4.toBelow HW3.out.size (fun k hh=>by simp at hh;omega)))
 have HG4:=hide (HG3.out.kept HB3.out (by decide) hk4)
 clear hB4 hk4 hs4 HB3 HR3 HW3 HG3
 have k3:=HB4.out.c3
 have k4:=HB4.out.c4
 have k8:=HB4.out.c8
 have k9:=HB4.out.c9
 have k10:=HB4.out.c10
 have k12:=HB4.out.c12
 have k13:=HB4.out.c13
 have k14:=HB4.out.c14
 have k16:=HB4.out.c16
 go_upto_region 3 with (refine Ky HB4.out (SN.lS s) rfl _ _ rfl rfl rfl ?_;intro w5 hB5 hk5 hs5)
 have HR5:=hide (HR4.out.kept hk5 (by simp;exact hne))
 have HW5:=hide (HW4.out.trans (hk5.toBelow HW4.out.size (fun k hh=>by simp at hh;omega)))
 have HG5:=hide (HG4.out.kept HB4.out (by decide) hk5)
 have HB5:=hide hB5
 clear k3 k4 k8 k9 k10 k12 k13 k14 k16 HB4 HR4 HW4 HG4 hB5 hk5
 go_wp2_with (first | (refine AX HB5.out rfl _ rfl rfl ?_) | (refine AQ HR5.out hsR rfl _ _ rfl rfl rfl rfl ?_;intro w8 hB8 hk8 hs8))
 refine bodyPost_ret (Cb rfl rfl hB8) rfl ⟨_,rfl,⟨_,by rw [<- HS.out],?_⟩,HW5.out.trans (hk8.toBelow HW5.out.size (fun k hh=>by simp at hh;omega))⟩
 rw [HGE.out]
 exact HG5.out.kept HR5.out (by decide) hk8
theorem SN.Wy {s:SN.Sc} (h:SN.Ac s):SN.Ac ((((s.uP s.sv.pen).uS s.sv.s0 s.sv.s1).u14 s.sv.sh).u16 s.sv.org) where
 g:=h.g
 row:=h.row
 col:=h.col
 bot:=h.bot
 top:=h.top
 pen:=h.sv.pen
 tabs:=h.tabs
 set:=h.sv.set
 pend:=h.pend
 sv:=h.sv
theorem Qq (s:SN.Sc) (v:Value) (w:World) (hs:SN.Ac s) (h:IsS w s v):Calls Tryz.prog 165 #[v] w (BD w (SN.Lx s)):=by
 obtain⟨x,rfl,hg⟩:=h
 obtain⟨A,cp,rfl⟩:=Ad hg
 have hgr:=hs.g.2.1
 have hgc:=hs.g.2.2.2.1
 have hR1:=hs.g.1
 have hK1:=hs.g.2.2.1
 have HG:=hide hg
 have hvr:=hs.sv.row
 have hvc:=hs.sv.col
 have AT:=hide (fun w' v' h=>(show Calls Tryz.prog 109 #[v',.int .i64 (s.sv.row:Nat),.int .i64 (s.sv.col:Nat)] w' (BD w' (SN.Lx s)) from FH ((((s.uP s.sv.pen).uS s.sv.s0 s.sv.s1).u14 s.sv.sh).u16 s.sv.org) v' s.sv.row s.sv.col w' (SN.Wy hs) (by omega) (by omega) h))
 generalize SN.Lx s=U at AT⊢
 clear hg hs
 go_enter Tryz.func165,Tryz.ntmps165
 go_upto_region 1 with (first | (refine BO rfl _ rfl rfl ?_;intro g w1 hB hb1 hg1) | (refine Bf rfl rfl ?_;intro gR w2 csR hR hsR hb2 hgR))
 have HB2:=hide (hB.below hb2 hB.lt)
 have HW2:=hide (hb1.trans (hb2.mono hb1.size))
 have HR2:=hide hR
 have mX:=hb1.size
 have hne:gR≠g:=by have:=hB.lt;omega
 have Ai:w.heap.size<=gR:=by omega
 have k20:=HB2.out.c20
 have k21:=HB2.out.c21
 have k22:=HB2.out.c22
 have k23:=HB2.out.c23
 have k24:=HB2.out.c24
 have k25:=HB2.out.c25
 have k26:=HB2.out.c26
 have k27:=HB2.out.c27
 have k28:=HB2.out.c28
 clear hB hb1 hb2 hR
 go_upto_region 2 with fail
 have HV:=hide (Box.new w2 41 #[.int .i64 s.sv.row,.int .i64 s.sv.col,.int .i64 s.sv.pen.1,.int .i64 s.sv.pen.2.1,.int .i64 s.sv.pen.2.2,.int .u8 s.sv.s0,.int .u8 s.sv.s1,.int .i64 s.sv.sh,.bool s.sv.org])
 have HB3:=hide (HB2.out.alloc (.cells #[.int .i64 s.sv.row,.int .i64 s.sv.col,.int .i64 s.sv.pen.1,.int .i64 s.sv.pen.2.1,.int .i64 s.sv.pen.2.2,.int .u8 s.sv.s0,.int .u8 s.sv.s1,.int .i64 s.sv.sh,.bool s.sv.org] 41))
 have HR3:=hide (HR2.out.alloc (.cells #[.int .i64 s.sv.row,.int .i64 s.sv.col,.int .i64 s.sv.pen.1,.int .i64 s.sv.pen.2.1,.int .i64 s.sv.pen.2.2,.int .u8 s.sv.s0,.int .u8 s.sv.s1,.int .i64 s.sv.sh,.bool s.sv.org] 41))
 have HW3:=hide (HW2.out.alloc HW2.out.size (.cells #[.int .i64 s.sv.row,.int .i64 s.sv.col,.int .i64 s.sv.pen.1,.int .i64 s.sv.pen.2.1,.int .i64 s.sv.pen.2.2,.int .u8 s.sv.s0,.int .u8 s.sv.s1,.int .i64 s.sv.sh,.bool s.sv.org] 41))
 have hgv:g≠w2.heap.size:=by have:=HB2.out.lt;omega
 have hgv2:gR≠w2.heap.size:=by have:=HR2.out.lt;omega
 generalize w2.heap.size=gV at HV hgv hgv2⊢
 generalize w2.alloc (.cells #[.int .i64 s.sv.row,.int .i64 s.sv.col,.int .i64 s.sv.pen.1,.int .i64 s.sv.pen.2.1,.int .i64 s.sv.pen.2.2,.int .u8 s.sv.s0,.int .u8 s.sv.s1,.int .i64 s.sv.sh,.bool s.sv.org] 41)=w3 at HV HB3 HR3 HW3⊢
 clear k20 k21 k22 k23 k24 k25 k26 k27 k28 HB2 HR2 HW2
 have v2:w3.cell? ⟨gV,2,none⟩=some (.int .i64 s.sv.pen.1):=HV.out.cell 2
 have v3:w3.cell? ⟨gV,3,none⟩=some (.int .i64 s.sv.pen.2.1):=HV.out.cell 3
 have v4:w3.cell? ⟨gV,4,none⟩=some (.int .i64 s.sv.pen.2.2):=HV.out.cell 4
 have v5:w3.cell? ⟨gV,5,none⟩=some (.int .u8 s.sv.s0):=HV.out.cell 5
 have v6:w3.cell? ⟨gV,6,none⟩=some (.int .u8 s.sv.s1):=HV.out.cell 6
 have v7:w3.cell? ⟨gV,7,none⟩=some (.int .i64 s.sv.sh):=HV.out.cell 7
 have v8:w3.cell? ⟨gV,8,none⟩=some (.bool s.sv.org):=HV.out.cell 8
 have k8:=HB3.out.c8
 have k9:=HB3.out.c9
 have k10:=HB3.out.c10
 have k12:=HB3.out.c12
 have k13:=HB3.out.c13
 have k14:=HB3.out.c14
 have k16:=HB3.out.c16
 have z8:=HB3.out.fz 8
 have z9:=HB3.out.fz 9
 have z10:=HB3.out.fz 10
 have z12:=HB3.out.fz 12
 have z13:=HB3.out.fz 13
 have z14:=HB3.out.fz 14
 have z16:=HB3.out.fz 16
 go_region
 go_simp
 go_step
 have hk4:Kept [some g] w3 (((((((w3.setCell ⟨g,8,none⟩ (.int .i64 s.sv.pen.1)).setCell ⟨g,9,none⟩ (.int .i64 s.sv.pen.2.1)).setCell ⟨g,10,none⟩ (.int .i64 s.sv.pen.2.2)).setCell ⟨g,12,none⟩ (.int .u8 s.sv.s0)).setCell ⟨g,13,none⟩ (.int .u8 s.sv.s1)).setCell ⟨g,14,none⟩ (.int .i64 s.sv.sh)).setCell ⟨g,16,none⟩ (.bool s.sv.org)).drew:=((((((((Kept.refl [some g] w3).setCell (p:=⟨g,8,none⟩) (From.mem (by simp)) (.int .i64 s.sv.pen.1)).setCell (p:=⟨g,9,none⟩) (From.mem (by simp)) (.int .i64 s.sv.pen.2.1)).setCell (p:=⟨g,10,none⟩) (From.mem (by simp)) (.int .i64 s.sv.pen.2.2)).setCell (p:=⟨g,12,none⟩) (From.mem (by simp)) (.int .u8 s.sv.s0)).setCell (p:=⟨g,13,none⟩) (From.mem (by simp)) (.int .u8 s.sv.s1)).setCell (p:=⟨g,14,none⟩) (From.mem (by simp)) (.int .i64 s.sv.sh)).setCell (p:=⟨g,16,none⟩) (From.mem (by simp)) (.bool s.sv.org)).drew
 have HB4:=hide (show Ak (((((((w3.setCell ⟨g,8,none⟩ (.int .i64 s.sv.pen.1)).setCell ⟨g,9,none⟩ (.int .i64 s.sv.pen.2.1)).setCell ⟨g,10,none⟩ (.int .i64 s.sv.pen.2.2)).setCell ⟨g,12,none⟩ (.int .u8 s.sv.s0)).setCell ⟨g,13,none⟩ (.int .u8 s.sv.s1)).setCell ⟨g,14,none⟩ (.int .i64 s.sv.sh)).setCell ⟨g,16,none⟩ (.bool s.sv.org)).drew g (.slice A (s.g.rows*s.g.AB) cp) ((((s.uP s.sv.pen).uS s.sv.s0 s.sv.s1).u14 s.sv.sh).u16 s.sv.org) from Box.drew (((((((HB3.out.set8 _).set9 _).pO _).Yr _).Yt _).Yu _).kE _))
 generalize (((((((w3.setCell ⟨g,8,none⟩ (.int .i64 s.sv.pen.1)).setCell ⟨g,9,none⟩ (.int .i64 s.sv.pen.2.1)).setCell ⟨g,10,none⟩ (.int .i64 s.sv.pen.2.2)).setCell ⟨g,12,none⟩ (.int .u8 s.sv.s0)).setCell ⟨g,13,none⟩ (.int .u8 s.sv.s1)).setCell ⟨g,14,none⟩ (.int .i64 s.sv.sh)).setCell ⟨g,16,none⟩ (.bool s.sv.org)).drew=w4 at hk4 HB4⊢
 have HV4:=hide (HV.out.kept hk4 (by simp;exact fun e=>hgv e.symm))
 have HR4:=hide (HR3.out.kept hk4 (by simp;exact hne))
 have HG4:=hide ((HG.out.low HW3.out).kept HB3.out (by decide) hk4)
 have HW4:=hide (HW3.out.trans (hk4.toBelow HW3.out.size (fun k hk=>by simp at hk;omega)))
 clear k8 k9 k10 k12 k13 k14 k16 z8 z9 z10 z12 z13 z14 z16 v2 v3 v4 v5 v6 v7 v8 hk4 HV HB3 HR3 HW3
 have v0:w4.cell? ⟨gV,0,none⟩=some (.int .i64 (s.sv.row:Nat)):=HV4.out.cell 0
 have v1:w4.cell? ⟨gV,1,none⟩=some (.int .i64 (s.sv.col:Nat)):=HV4.out.cell 1
 go_wp2_with (refine AX HB4.out rfl _ rfl rfl ?_)
 refine(AT.out _ _ ⟨_,rfl,HG4.out⟩).mono (Al HR4 HW4 fun A7 c7 w7 HR7 HW7 HG7=>?_)
 clear v0 v1 HV4 HB4 HR4 HW4 HG4
 go_wp2_with (refine AQ HR7.out hsR rfl _ _ rfl rfl rfl rfl ?_;intro w8 hB8 hk8 hs8)
 exact BX rfl rfl rfl hB8 HG7 HR7 HW7 hk8 Ai
theorem Qr (s:SN.Sc) (v:Value) (w:World) (hs:PG.BL s.g) (hrow:s.row<s.g.rows) (CJ:s.col<s.g.AB) (htop:s.top<=s.bot) (JQ:s.bot<s.g.rows) (hpen:PG.Cv (SN.BI s)) (h:IsS w s v):Calls Tryz.prog 64 #[v] w (BD w (SN.Dx s)):=by
 obtain⟨x,rfl,hg⟩:=h
 obtain⟨A,cp,rfl⟩:=Ad hg
 have hgr:=hs.2.1
 have hgc:=hs.2.2.2.1
 have hR1:=hs.1
 have hK1:=hs.2.2.1
 have HG:=hide hg
 by_cases he:s.row=s.bot
 ·have e1:((s.row:Int)!=(s.bot:Int))=false:=by simp;omega
  have FL:=hide (fun w'=>Ic s (.slice A (s.g.rows*s.g.AB) cp) w')
  have SI:PG.DI s.g s.top s.bot 1 (SN.BI s)=PG.Am s.g s.top s.bot 1 (SN.BI s):=(if_pos ⟨by omega,by omega⟩).trans (by simp)
  have SC0:=fun (w':World) (hb:Below w.heap.size w w')=>mY (w:=w') hs (hg.low hb) s.top s.bot 1 (SN.BI s) (hpen) (by omega) (by omega) (by omega)
  rw [SI] at SC0
  have HS:=hide (show(s.uG (PG.Am s.g s.top s.bot 1 (SN.BI s))).u5 false=SN.Dx s from(if_pos he).symm)
  have HGE:=hide (show(SN.Dx s).g=PG.Am s.g s.top s.bot 1 (SN.BI s) by rw [<- HS.out];rfl)
  generalize PG.Am s.g s.top s.bot 1 (SN.BI s)=T at SC0 HS HGE
  have SCH:=hide SC0
  generalize SN.Dx s=U at HS HGE⊢
  clear SC0 SI he hg hs
  go_enter Tryz.func64,Tryz.ntmps64
  go_upto_region 1 with (refine Bc HG _ rfl rfl rfl rfl rfl ?_;intro g gR w2 csR hsR HB2 HW2 HR2 HG2 hne hg1 Ai)
  clear HG
  have HB3:=HB2
  have HR3:=HR2
  have HW3:=HW2
  have k3:w2.cell? ⟨g,3,none⟩=some (.int .i64 (s.row:Nat)):=HB3.out.c3
  have k7:w2.cell? ⟨g,7,none⟩=some (.int .i64 (s.bot:Nat)):=HB3.out.c7
  have SC:=hide (fun w' (hb:Below w2.heap.size w2 w')=>(show Calls Tryz.prog 110 #[.agg #[.int .i64 s.g.rows,.int .i64 s.g.AB,.slice A (s.g.rows*s.g.AB) cp],.int .i64 s.top,.int .i64 s.bot,.int .i64 1,.agg #[.int .i64 (-1),.int .i64 s.pen.2.1,.int .i64 0]] w' (Dk w' T) from SCH.out w' (HW3.out.trans (hb.mono HW3.out.size))))
  clear SCH HB2 HR2 HW2 HG2
  go_upto_region 3 with fail
  go_cut [] from 15 to 24 (fun wx=> ∃A4 c4,Ak wx g (.slice A4 (T.rows*T.AB) c4) (s.uG T)/\Below w.heap.size w wx/\Box wx gR 43 csR/\IsG wx T (gv T.rows T.AB (.slice A4 (T.rows*T.AB) c4)))
  case first=>
   refine Bh (n:=27) 10 [] (fun _=> #[]) [(0,0,0,0,0),(0,0,0,0,0),(0,0,0,0,0),(0,0,0,0,0),(0,0,0,0,0),(0,0,0,0,0),(0,0,0,0,0),(0,0,0,0,0),(1,0,0,0,0),(0,0,0,0,0),(0,0,0,0,0)] (fun j=> [(.pointer (some ⟨g,0,none⟩)),(.agg #[.int .i64 (s.g.rows:Nat),.int .i64 (s.g.AB:Nat),.slice A (s.g.rows*s.g.AB) cp]),(.pointer (some ⟨g,6,none⟩)),(.int .i64 (s.top:Nat)),(.pointer (some ⟨g,7,none⟩)),(.int .i64 (s.bot:Nat)),(.agg (scA (.slice A (s.g.rows*s.g.AB) cp) s)),(.agg #[.int .i64 (-1),.int .i64 s.pen.2.1,.int .i64 0]),undef,(.pointer (some ⟨g,0,none⟩)),undef].getD j undef) [none,none,none,none,none,none,none,none,some (Ea T)] (fun _=>0) (by kernel_rfl) (by kernel_rfl) (by kernel_rfl) rfl (by kernel_rfl) (by kernel_rfl) (Dt rfl) (fun i j h=>by revert h;exact Dt (p:=fun _=>_) rfl i) (Aj.none_ (Aj.none_ (Aj.none_ (Aj.none_ (Aj.none_ (Aj.none_ (Aj.none_ (Aj.none_ (Aj.some_ (Ea.stays (by kernel_rfl)) (Aj.nil _)))))))))) (fun hGS=>K6 ⟨?_,?_,?_,?_,?_,?_,?_,?_,?_,?_⟩) ?_
   ·intro L a w' hL hsame hsz hJ AJ hcl
    refine BG hJ hGS hcl hL 1 (.pointer (some ⟨g,0,none⟩)) (.pointer (some ⟨g,0,none⟩)) (AY hsame (by kernel_rfl)) _ rfl rfl rfl rfl rfl fun ρ _ e0=>?_
    clear hJ hsame AJ hcl hsz
    go_simp
   ·intro L a w' hL hsame hsz hJ AJ hcl
    have hx:=hJ.Ah (HB3.out) (by simp)
    have q0:w'.cell? ⟨g,0,none⟩=some (.int .i64 (s.g.rows:Nat)):=hx.cell 0
    have q1:w'.cell? ⟨g,1,none⟩=some (.int .i64 (s.g.AB:Nat)):=hx.cell 1
    have q2:w'.cell? ⟨g,2,none⟩=some (.slice A (s.g.rows*s.g.AB) cp):=hx.cell 2
    refine BG hJ hGS hcl hL 15 (.pointer (some ⟨g,0,none⟩)) (.agg #[.int .i64 (s.g.rows:Nat),.int .i64 (s.g.AB:Nat),.slice A (s.g.rows*s.g.AB) cp]) (gslot hJ AJ 0 (by kernel_rfl) (by kernel_rfl) (by decide) rfl rfl) _ rfl rfl rfl rfl rfl fun ρ _ e0=>?_
    clear hJ hsame AJ hcl hsz hx
    go_simp
   ·intro L a w' hL hsame hsz hJ AJ hcl
    refine BG hJ hGS hcl hL 1 (.pointer (some ⟨g,0,none⟩)) (.pointer (some ⟨g,6,none⟩)) (AY hsame (by kernel_rfl)) _ rfl rfl rfl rfl rfl fun ρ _ e0=>?_
    clear hJ hsame AJ hcl hsz
    go_simp
   ·intro L a w' hL hsame hsz hJ AJ hcl
    have q0:w'.cell? ⟨g,6,none⟩=some (.int .i64 (s.top:Nat)):=(hJ.Ah (HB3.out) (by simp)).cell 6
    refine BG hJ hGS hcl hL 17 (.pointer (some ⟨g,6,none⟩)) (.int .i64 (s.top:Nat)) (gslot hJ AJ 2 (by kernel_rfl) (by kernel_rfl) (by decide) rfl rfl) _ rfl rfl rfl rfl rfl fun ρ _ e0=>?_
    clear hJ hsame AJ hcl hsz
    go_simp
   ·intro L a w' hL hsame hsz hJ AJ hcl
    refine BG hJ hGS hcl hL 1 (.pointer (some ⟨g,0,none⟩)) (.pointer (some ⟨g,7,none⟩)) (AY hsame (by kernel_rfl)) _ rfl rfl rfl rfl rfl fun ρ _ e0=>?_
    clear hJ hsame AJ hcl hsz
    go_simp
   ·intro L a w' hL hsame hsz hJ AJ hcl
    have q0:w'.cell? ⟨g,7,none⟩=some (.int .i64 (s.bot:Nat)):=(hJ.Ah (HB3.out) (by simp)).cell 7
    refine BG hJ hGS hcl hL 19 (.pointer (some ⟨g,7,none⟩)) (.int .i64 (s.bot:Nat)) (gslot hJ AJ 4 (by kernel_rfl) (by kernel_rfl) (by decide) rfl rfl) _ rfl rfl rfl rfl rfl fun ρ _ e0=>?_
    clear hJ hsame AJ hcl hsz
    go_simp
   ·intro L a w' hL hsame hsz hJ AJ hcl
    have hb:=hJ.kept.toBelow (Nat.le_refl _) (by simp)
    have e0:a.eval (.tmp 1)=(.pointer (some ⟨g,0,none⟩)):=AY hsame (by kernel_rfl)
    have hx:=hJ.Ah (HB3.out) (by simp)
    exact Step.val _ rfl rfl (AV rfl) (.agg (scA (.slice A (s.g.rows*s.g.AB) cp) s)) w' (fun ρ hρ=>Aq hx rfl ρ _ rfl ((hρ _).symm.trans e0)) (hJ.val hGS hcl hL rfl (Below.refl _ _) _ rfl)
   ·intro L a w' hL hsame hsz hJ AJ hcl
    have hb:=hJ.kept.toBelow (Nat.le_refl _) (by simp)
    have e0:a.eval (.tmp 21)=(.agg (scA (.slice A (s.g.rows*s.g.AB) cp) s)):=AU (j:=6) (by kernel_rfl) (hJ.valOf (by decide) (AZ AJ 6 (by kernel_rfl)) rfl rfl)
    refine Step.call _ rfl rfl (AV rfl) 111 #[.agg (scA (.slice A (s.g.rows*s.g.AB) cp) s)] (fun ρ hρ=>?_) ?_
    ·skip
     rw [hρ] at e0
     have ef:ρ (.func 111)=.func (.func 111) #[] #[] :=(hρ _).symm
     clear hJ hsame AJ hcl hρ hsz hb
     go_simp
    ·refine(FL.out _).mono ?_
     rintro e w2 ⟨rfl,bb⟩
     exact⟨_,rfl,hJ.val hGS hcl hL rfl bb _ rfl⟩
   ·intro L a w' hL hsame hsz hJ AJ hcl
    have hb:=hJ.kept.toBelow (Nat.le_refl _) (by simp)
    have e0:a.eval (.tmp 16)=(.agg #[.int .i64 (s.g.rows:Nat),.int .i64 (s.g.AB:Nat),.slice A (s.g.rows*s.g.AB) cp]):=AU (j:=1) (by kernel_rfl) (hJ.valOf (by decide) (AZ AJ 1 (by kernel_rfl)) rfl rfl)
    have e1:a.eval (.tmp 18)=(.int .i64 (s.top:Nat)):=AU (j:=3) (by kernel_rfl) (hJ.valOf (by decide) (AZ AJ 3 (by kernel_rfl)) rfl rfl)
    have e2:a.eval (.tmp 20)=(.int .i64 (s.bot:Nat)):=AU (j:=5) (by kernel_rfl) (hJ.valOf (by decide) (AZ AJ 5 (by kernel_rfl)) rfl rfl)
    have e4:a.eval (.tmp 22)=(.agg #[.int .i64 (-1),.int .i64 s.pen.2.1,.int .i64 0]):=AU (j:=7) (by kernel_rfl) (hJ.valOf (by decide) (AZ AJ 7 (by kernel_rfl)) rfl rfl)
    refine Step.call _ rfl rfl (AV rfl) 110 #[.agg #[.int .i64 (s.g.rows:Nat),.int .i64 (s.g.AB:Nat),.slice A (s.g.rows*s.g.AB) cp],.int .i64 (s.top:Nat),.int .i64 (s.bot:Nat),.int .i64 1,.agg #[.int .i64 (-1),.int .i64 s.pen.2.1,.int .i64 0]] (fun ρ hρ=>?_) ?_
    ·skip
     rw [hρ] at e0 e1 e2 e4
     have ec0:ρ (.const (.int .i64 1))=(.int .i64 1):=(hρ _).symm
     have ef:ρ (.func 110)=.func (.func 110) #[] #[] :=(hρ _).symm
     clear hJ hsame AJ hcl hρ hsz hb
     go_simp
    ·refine(SC.out _ hb).mono ?_
     rintro e w2 ⟨v,rfl,⟨y,rfl,ho⟩,bb⟩
     obtain⟨A8,c8,rfl⟩:=Ad (G:=T) ⟨_,rfl,ho⟩
     exact⟨_,rfl,hJ.pred hGS hcl hL rfl bb _ ⟨A8,c8,rfl,ho⟩⟩
   ·intro L a w' hL hsame hsz hJ AJ hcl
    refine BG hJ hGS hcl hL 1 (.pointer (some ⟨g,0,none⟩)) (.pointer (some ⟨g,0,none⟩)) (AY hsame (by kernel_rfl)) _ rfl rfl rfl rfl rfl fun ρ _ e0=>?_
    clear hJ hsame AJ hcl hsz
    go_simp
   ·intro L u w' hF hall
    change wpList _ _ _ _ (Act.put (Act.put (Act.put (Act.put (Act.put (Act.put (Act.put (Act.put (Act.put (Act.put (Act.put (Az _ u 0 _) (some 15) (u 0)) (some 16) (u 1)) (some 17) (u 2)) (some 18) (u 3)) (some 19) (u 4)) (some 20) (u 5)) (some 21) (u 6)) (some 22) (u 7)) (some 23) (u 8)) (some 24) (u 9)) none (u 10)) _
    simp only [Az]
    obtain⟨A4,c4,f8,ho4⟩:=(show Ea T (u 8) w' from hF.Cy (j:=8) (by decide) (hall 8 (by decide)) rfl)
    have f9:u 9=.pointer (some ⟨g,0,none⟩):=hF.valOf (j:=9) (by decide) (hall 9 (by decide)) rfl rfl
    have hk:=hF.kept.toBelow (Nat.le_refl _) (by simp)
    clear hF
    generalize u 0=z0
    generalize u 1=z1
    generalize u 2=z2
    generalize u 3=z3
    generalize u 4=z4
    generalize u 5=z5
    generalize u 6=z6
    generalize u 7=z7
    generalize u 8=z8 at f8⊢
    generalize u 9=z9 at f9⊢
    generalize u 10=z10
    subst f8 f9
    simp only [List.drop_succ_cons,List.drop_zero]
    refine Cc (y:=.slice A4 (T.rows*T.AB) c4) (G:=T) (HB3.out.below hk HB3.out.lt) rfl _ _ rfl (by go_simp) (by go_simp;rfl) rfl ?_
    intro w8 hB8 hk8 hs8
    change Exit.then _ _ Exit.normal _ _
    go_simp
    go_step
    go_meet
    have hw:=HW3.out.trans (hk.mono HW3.out.size)
    exact⟨A4,c4,hB8,hw.trans (hk8.toBelow hw.size (fun k hh=>by simp at hh;omega)),(HR3.out.below hk HR3.out.lt).kept hk8 (by simp;exact hne),IsG.kept (G:=T) ⟨_,rfl,ho4⟩ (HB3.out.below hk HB3.out.lt) (by decide) hk8⟩
  case rest=>
   obtain⟨A4,c4,hB4,hW4,hR4,hG4⟩:=hcut
   rename World=>w5
   have k5:=hB4.c5
   have z5:=hB4.fz 5
   go_upto_region 5 with fail
   have HB6:=hide (hB4.KE false)
   have HR6:=hide (hR4.far (p:=⟨g,5,none⟩) hne (.bool false))
   have HW6:=hide (hW4.setCell (p:=⟨g,5,none⟩) hg1 (.bool false))
   have HG6:=hide (IsG.puts hG4 hB4 5 (.bool false))
   generalize (w5.setCell ⟨g,5,none⟩ (.bool false))=w6 at HB6 HR6 HW6 HG6⊢
   clear k5 z5 hB4 hR4 hW4 hG4
   go_wp2_with (first | (refine AX HB6.out rfl _ rfl rfl ?_) | (refine AQ HR6.out hsR rfl _ _ rfl rfl rfl rfl ?_;intro w8 hB8 hk8 hs8))
   refine bodyPost_ret (Cb rfl rfl hB8) rfl ⟨_,rfl,⟨_,by rw [<- HS.out],?_⟩,HW6.out.trans (hk8.toBelow HW6.out.size (fun k hh=>by simp at hh;omega))⟩
   rw [HGE.out]
   exact HG6.out.kept HR6.out (by decide) hk8
 ·have e1:((s.row:Int)!=(s.bot:Int))=true:=by simp;omega
  have AT:=hide (fun w' v' h=>(Zo s v' ((s.row:Int)+1) s.col w' hs (by omega) (by omega) h))
  rw [show SN.atS s ((s.row:Int)+1) s.col=SN.Dx s from(if_neg he).symm] at AT
  generalize SN.Dx s=U at AT⊢
  clear he hg hs
  go_enter Tryz.func64,Tryz.ntmps64
  go_upto_region 1 with (refine Bc HG _ rfl rfl rfl rfl rfl ?_;intro g gR w2 csR hsR HB2 HW2 HR2 HG2 hne hg1 Ai)
  clear HG
  have k3:w2.cell? ⟨g,3,none⟩=some (.int .i64 (s.row:Nat)):=HB2.out.c3
  have k4:w2.cell? ⟨g,4,none⟩=some (.int .i64 (s.col:Nat)):=HB2.out.c4
  have k7:w2.cell? ⟨g,7,none⟩=some (.int .i64 (s.bot:Nat)):=HB2.out.c7
  go_wp2_with (refine AX HB2.out rfl _ rfl rfl ?_)
  refine(AT.out _ _ ⟨_,rfl,HG2.out⟩).mono (Al HR2 HW2 fun A7 c7 w7 HR7 HW7 HG7=>?_)
  clear HB2 HR2 HW2 HG2
  go_wp2_with (refine AQ HR7.out hsR rfl _ _ rfl rfl rfl rfl ?_;intro w8 hB8 hk8 hs8)
  exact BX rfl rfl rfl hB8 HG7 HR7 HW7 hk8 Ai
theorem Ie (s:SN.Sc) (v:Value) (w:World) (hs:SN.Ac s) (h:IsS w s v):Calls Tryz.prog 64 #[v] w (BD w (SN.Dx s)):=Qr s v w hs.g hs.row hs.col (SN.DZ hs) hs.bot (SN.Bz hs) h
theorem Zq (s:SN.Sc) (v:Value) (w:World) (hs:SN.Ac s) (h:IsS w s v):Calls Tryz.prog 166 #[v] w (BD w (SN.Jp s)):=by
 obtain⟨x,rfl,hg⟩:=h
 obtain⟨A,cp,rfl⟩:=Ad hg
 have hgr:=hs.g.2.1
 have hgc:=hs.g.2.2.2.1
 have hR1:=hs.g.1
 have hK1:=hs.g.2.2.1
 have HG:=hide hg
 have hrow:=hs.row
 have CJ:=hs.col
 have htop:=SN.DZ hs
 have JQ:=hs.bot
 by_cases he:s.row=s.top
 ·have e1:((s.row:Int)!=(s.top:Int))=false:=by simp;omega
  have FL:=hide (fun w'=>Ic s (.slice A (s.g.rows*s.g.AB) cp) w')
  have SI:PG.DI s.g s.top s.bot (-1) (SN.BI s)=PG.Am s.g s.top s.bot (-1) (SN.BI s):=(if_pos ⟨by omega,by omega⟩).trans (by simp)
  have SC0:=fun (w':World) (hb:Below w.heap.size w w')=>Ta (w:=w') hs.g (hg.low hb) s.top s.bot 1 (SN.BI s) (SN.Bz hs) (by omega) (by omega) (by omega)
  rw [SI] at SC0
  have HS:=hide (show(s.uG (PG.Am s.g s.top s.bot (-1) (SN.BI s))).u5 false=SN.Jp s from(if_pos he).symm)
  have HGE:=hide (show(SN.Jp s).g=PG.Am s.g s.top s.bot (-1) (SN.BI s) by rw [<- HS.out];rfl)
  generalize PG.Am s.g s.top s.bot (-1) (SN.BI s)=T at SC0 HS HGE
  have SCH:=hide SC0
  generalize SN.Jp s=U at HS HGE⊢
  clear SC0 SI he hg hs
  go_enter Tryz.func166,Tryz.ntmps166
  go_upto_region 1 with (refine Bc HG _ rfl rfl rfl rfl rfl ?_;intro g gR w2 csR hsR HB2 HW2 HR2 HG2 hne hg1 Ai)
  clear HG
  have HB3:=HB2
  have HR3:=HR2
  have HW3:=HW2
  have k3:w2.cell? ⟨g,3,none⟩=some (.int .i64 (s.row:Nat)):=HB3.out.c3
  have k6:w2.cell? ⟨g,6,none⟩=some (.int .i64 (s.top:Nat)):=HB3.out.c6
  have SC:=hide (fun w' (hb:Below w2.heap.size w2 w')=>(show Calls Tryz.prog 190 #[.agg #[.int .i64 s.g.rows,.int .i64 s.g.AB,.slice A (s.g.rows*s.g.AB) cp],.int .i64 s.top,.int .i64 s.bot,.int .i64 1,.agg #[.int .i64 (-1),.int .i64 s.pen.2.1,.int .i64 0]] w' (Dk w' T) from SCH.out w' (HW3.out.trans (hb.mono HW3.out.size))))
  clear SCH HB2 HR2 HW2 HG2
  go_upto_region 3 with fail
  go_cut [] from 15 to 24 (fun wx=> ∃A4 c4,Ak wx g (.slice A4 (T.rows*T.AB) c4) (s.uG T)/\Below w.heap.size w wx/\Box wx gR 43 csR/\IsG wx T (gv T.rows T.AB (.slice A4 (T.rows*T.AB) c4)))
  case first=>
   refine Bh (n:=27) 10 [] (fun _=> #[]) [(0,0,0,0,0),(0,0,0,0,0),(0,0,0,0,0),(0,0,0,0,0),(0,0,0,0,0),(0,0,0,0,0),(0,0,0,0,0),(0,0,0,0,0),(1,0,0,0,0),(0,0,0,0,0),(0,0,0,0,0)] (fun j=> [(.pointer (some ⟨g,0,none⟩)),(.agg #[.int .i64 (s.g.rows:Nat),.int .i64 (s.g.AB:Nat),.slice A (s.g.rows*s.g.AB) cp]),(.pointer (some ⟨g,6,none⟩)),(.int .i64 (s.top:Nat)),(.pointer (some ⟨g,7,none⟩)),(.int .i64 (s.bot:Nat)),(.agg (scA (.slice A (s.g.rows*s.g.AB) cp) s)),(.agg #[.int .i64 (-1),.int .i64 s.pen.2.1,.int .i64 0]),undef,(.pointer (some ⟨g,0,none⟩)),undef].getD j undef) [none,none,none,none,none,none,none,none,some (Ea T)] (fun _=>0) (by kernel_rfl) (by kernel_rfl) (by kernel_rfl) rfl (by kernel_rfl) (by kernel_rfl) (Dt rfl) (fun i j h=>by revert h;exact Dt (p:=fun _=>_) rfl i) (Aj.none_ (Aj.none_ (Aj.none_ (Aj.none_ (Aj.none_ (Aj.none_ (Aj.none_ (Aj.none_ (Aj.some_ (Ea.stays (by kernel_rfl)) (Aj.nil _)))))))))) (fun hGS=>K6 ⟨?_,?_,?_,?_,?_,?_,?_,?_,?_,?_⟩) ?_
   ·intro L a w' hL hsame hsz hJ AJ hcl
    refine BG hJ hGS hcl hL 1 (.pointer (some ⟨g,0,none⟩)) (.pointer (some ⟨g,0,none⟩)) (AY hsame (by kernel_rfl)) _ rfl rfl rfl rfl rfl fun ρ _ e0=>?_
    clear hJ hsame AJ hcl hsz
    go_simp
   ·intro L a w' hL hsame hsz hJ AJ hcl
    have hx:=hJ.Ah (HB3.out) (by simp)
    have q0:w'.cell? ⟨g,0,none⟩=some (.int .i64 (s.g.rows:Nat)):=hx.cell 0
    have q1:w'.cell? ⟨g,1,none⟩=some (.int .i64 (s.g.AB:Nat)):=hx.cell 1
    have q2:w'.cell? ⟨g,2,none⟩=some (.slice A (s.g.rows*s.g.AB) cp):=hx.cell 2
    refine BG hJ hGS hcl hL 15 (.pointer (some ⟨g,0,none⟩)) (.agg #[.int .i64 (s.g.rows:Nat),.int .i64 (s.g.AB:Nat),.slice A (s.g.rows*s.g.AB) cp]) (gslot hJ AJ 0 (by kernel_rfl) (by kernel_rfl) (by decide) rfl rfl) _ rfl rfl rfl rfl rfl fun ρ _ e0=>?_
    clear hJ hsame AJ hcl hsz hx
    go_simp
   ·intro L a w' hL hsame hsz hJ AJ hcl
    refine BG hJ hGS hcl hL 1 (.pointer (some ⟨g,0,none⟩)) (.pointer (some ⟨g,6,none⟩)) (AY hsame (by kernel_rfl)) _ rfl rfl rfl rfl rfl fun ρ _ e0=>?_
    clear hJ hsame AJ hcl hsz
    go_simp
   ·intro L a w' hL hsame hsz hJ AJ hcl
    have q0:w'.cell? ⟨g,6,none⟩=some (.int .i64 (s.top:Nat)):=(hJ.Ah (HB3.out) (by simp)).cell 6
    refine BG hJ hGS hcl hL 17 (.pointer (some ⟨g,6,none⟩)) (.int .i64 (s.top:Nat)) (gslot hJ AJ 2 (by kernel_rfl) (by kernel_rfl) (by decide) rfl rfl) _ rfl rfl rfl rfl rfl fun ρ _ e0=>?_
    clear hJ hsame AJ hcl hsz
    go_simp
   ·intro L a w' hL hsame hsz hJ AJ hcl
    refine BG hJ hGS hcl hL 1 (.pointer (some ⟨g,0,none⟩)) (.pointer (some ⟨g,7,none⟩)) (AY hsame (by kernel_rfl)) _ rfl rfl rfl rfl rfl fun ρ _ e0=>?_
    clear hJ hsame AJ hcl hsz
    go_simp
   ·intro L a w' hL hsame hsz hJ AJ hcl
    have q0:w'.cell? ⟨g,7,none⟩=some (.int .i64 (s.bot:Nat)):=(hJ.Ah (HB3.out) (by simp)).cell 7
    refine BG hJ hGS hcl hL 19 (.pointer (some ⟨g,7,none⟩)) (.int .i64 (s.bot:Nat)) (gslot hJ AJ 4 (by kernel_rfl) (by kernel_rfl) (by decide) rfl rfl) _ rfl rfl rfl rfl rfl fun ρ _ e0=>?_
    clear hJ hsame AJ hcl hsz
    go_simp
   ·intro L a w' hL hsame hsz hJ AJ hcl
    have hb:=hJ.kept.toBelow (Nat.le_refl _) (by simp)
    have e0:a.eval (.tmp 1)=(.pointer (some ⟨g,0,none⟩)):=AY hsame (by kernel_rfl)
    have hx:=hJ.Ah (HB3.out) (by simp)
    exact Step.val _ rfl rfl (AV rfl) (.agg (scA (.slice A (s.g.rows*s.g.AB) cp) s)) w' (fun ρ hρ=>Aq hx rfl ρ _ rfl ((hρ _).symm.trans e0)) (hJ.val hGS hcl hL rfl (Below.refl _ _) _ rfl)
   ·intro L a w' hL hsame hsz hJ AJ hcl
    have hb:=hJ.kept.toBelow (Nat.le_refl _) (by simp)
    have e0:a.eval (.tmp 21)=(.agg (scA (.slice A (s.g.rows*s.g.AB) cp) s)):=AU (j:=6) (by kernel_rfl) (hJ.valOf (by decide) (AZ AJ 6 (by kernel_rfl)) rfl rfl)
    refine Step.call _ rfl rfl (AV rfl) 111 #[.agg (scA (.slice A (s.g.rows*s.g.AB) cp) s)] (fun ρ hρ=>?_) ?_
    ·skip
     rw [hρ] at e0
     have ef:ρ (.func 111)=.func (.func 111) #[] #[] :=(hρ _).symm
     clear hJ hsame AJ hcl hρ hsz hb
     go_simp
    ·refine(FL.out _).mono ?_
     rintro e w2 ⟨rfl,bb⟩
     exact⟨_,rfl,hJ.val hGS hcl hL rfl bb _ rfl⟩
   ·intro L a w' hL hsame hsz hJ AJ hcl
    have hb:=hJ.kept.toBelow (Nat.le_refl _) (by simp)
    have e0:a.eval (.tmp 16)=(.agg #[.int .i64 (s.g.rows:Nat),.int .i64 (s.g.AB:Nat),.slice A (s.g.rows*s.g.AB) cp]):=AU (j:=1) (by kernel_rfl) (hJ.valOf (by decide) (AZ AJ 1 (by kernel_rfl)) rfl rfl)
    have e1:a.eval (.tmp 18)=(.int .i64 (s.top:Nat)):=AU (j:=3) (by kernel_rfl) (hJ.valOf (by decide) (AZ AJ 3 (by kernel_rfl)) rfl rfl)
    have e2:a.eval (.tmp 20)=(.int .i64 (s.bot:Nat)):=AU (j:=5) (by kernel_rfl) (hJ.valOf (by decide) (AZ AJ 5 (by kernel_rfl)) rfl rfl)
    have e4:a.eval (.tmp 22)=(.agg #[.int .i64 (-1),.int .i64 s.pen.2.1,.int .i64 0]):=AU (j:=7) (by kernel_rfl) (hJ.valOf (by decide) (AZ AJ 7 (by kernel_rfl)) rfl rfl)
    refine Step.call _ rfl rfl (AV rfl) 190 #[.agg #[.int .i64 (s.g.rows:Nat),.int .i64 (s.g.AB:Nat),.slice A (s.g.rows*s.g.AB) cp],.int .i64 (s.top:Nat),.int .i64 (s.bot:Nat),.int .i64 1,.agg #[.int .i64 (-1),.int .i64 s.pen.2.1,.int .i64 0]] (fun ρ hρ=>?_) ?_
    ·skip
     rw [hρ] at e0 e1 e2 e4
     have ec0:ρ (.const (.int .i64 1))=(.int .i64 1):=(hρ _).symm
     have ef:ρ (.func 190)=.func (.func 190) #[] #[] :=(hρ _).symm
     clear hJ hsame AJ hcl hρ hsz hb
     go_simp
    ·refine(SC.out _ hb).mono ?_
     rintro e w2 ⟨v,rfl,⟨y,rfl,ho⟩,bb⟩
     obtain⟨A8,c8,rfl⟩:=Ad (G:=T) ⟨_,rfl,ho⟩
     exact⟨_,rfl,hJ.pred hGS hcl hL rfl bb _ ⟨A8,c8,rfl,ho⟩⟩
   ·intro L a w' hL hsame hsz hJ AJ hcl
    refine BG hJ hGS hcl hL 1 (.pointer (some ⟨g,0,none⟩)) (.pointer (some ⟨g,0,none⟩)) (AY hsame (by kernel_rfl)) _ rfl rfl rfl rfl rfl fun ρ _ e0=>?_
    clear hJ hsame AJ hcl hsz
    go_simp
   ·intro L u w' hF hall
    change wpList _ _ _ _ (Act.put (Act.put (Act.put (Act.put (Act.put (Act.put (Act.put (Act.put (Act.put (Act.put (Act.put (Az _ u 0 _) (some 15) (u 0)) (some 16) (u 1)) (some 17) (u 2)) (some 18) (u 3)) (some 19) (u 4)) (some 20) (u 5)) (some 21) (u 6)) (some 22) (u 7)) (some 23) (u 8)) (some 24) (u 9)) none (u 10)) _
    simp only [Az]
    obtain⟨A4,c4,f8,ho4⟩:=(show Ea T (u 8) w' from hF.Cy (j:=8) (by decide) (hall 8 (by decide)) rfl)
    have f9:u 9=.pointer (some ⟨g,0,none⟩):=hF.valOf (j:=9) (by decide) (hall 9 (by decide)) rfl rfl
    have hk:=hF.kept.toBelow (Nat.le_refl _) (by simp)
    clear hF
    generalize u 0=z0
    generalize u 1=z1
    generalize u 2=z2
    generalize u 3=z3
    generalize u 4=z4
    generalize u 5=z5
    generalize u 6=z6
    generalize u 7=z7
    generalize u 8=z8 at f8⊢
    generalize u 9=z9 at f9⊢
    generalize u 10=z10
    subst f8 f9
    simp only [List.drop_succ_cons,List.drop_zero]
    refine Cc (y:=.slice A4 (T.rows*T.AB) c4) (G:=T) (HB3.out.below hk HB3.out.lt) rfl _ _ rfl (by go_simp) (by go_simp;rfl) rfl ?_
    intro w8 hB8 hk8 hs8
    change Exit.then _ _ Exit.normal _ _
    go_simp
    go_step
    go_meet
    have hw:=HW3.out.trans (hk.mono HW3.out.size)
    exact⟨A4,c4,hB8,hw.trans (hk8.toBelow hw.size (fun k hh=>by simp at hh;omega)),(HR3.out.below hk HR3.out.lt).kept hk8 (by simp;exact hne),IsG.kept (G:=T) ⟨_,rfl,ho4⟩ (HB3.out.below hk HB3.out.lt) (by decide) hk8⟩
  case rest=>
   obtain⟨A4,c4,hB4,hW4,hR4,hG4⟩:=hcut
   rename World=>w5
   have k5:=hB4.c5
   have z5:=hB4.fz 5
   go_upto_region 5 with fail
   have HB6:=hide (hB4.KE false)
   have HR6:=hide (hR4.far (p:=⟨g,5,none⟩) hne (.bool false))
   have HW6:=hide (hW4.setCell (p:=⟨g,5,none⟩) hg1 (.bool false))
   have HG6:=hide (IsG.puts hG4 hB4 5 (.bool false))
   generalize (w5.setCell ⟨g,5,none⟩ (.bool false))=w6 at HB6 HR6 HW6 HG6⊢
   clear k5 z5 hB4 hR4 hW4 hG4
   go_wp2_with (first | (refine AX HB6.out rfl _ rfl rfl ?_) | (refine AQ HR6.out hsR rfl _ _ rfl rfl rfl rfl ?_;intro w8 hB8 hk8 hs8))
   refine bodyPost_ret (Cb rfl rfl hB8) rfl ⟨_,rfl,⟨_,by rw [<- HS.out],?_⟩,HW6.out.trans (hk8.toBelow HW6.out.size (fun k hh=>by simp at hh;omega))⟩
   rw [HGE.out]
   exact HG6.out.kept HR6.out (by decide) hk8
 ·have e1:((s.row:Int)!=(s.top:Int))=true:=by simp;omega
  have AT:=hide (fun w' v' h=>(FH s v' ((s.row:Int)-1) s.col w' hs (by omega) (by omega) h))
  rw [show SN.atS s ((s.row:Int)-1) s.col=SN.Jp s from(if_neg he).symm] at AT
  generalize SN.Jp s=U at AT⊢
  clear he hg hs
  go_enter Tryz.func166,Tryz.ntmps166
  go_upto_region 1 with (refine Bc HG _ rfl rfl rfl rfl rfl ?_;intro g gR w2 csR hsR HB2 HW2 HR2 HG2 hne hg1 Ai)
  clear HG
  have k3:w2.cell? ⟨g,3,none⟩=some (.int .i64 (s.row:Nat)):=HB2.out.c3
  have k4:w2.cell? ⟨g,4,none⟩=some (.int .i64 (s.col:Nat)):=HB2.out.c4
  have k6:w2.cell? ⟨g,6,none⟩=some (.int .i64 (s.top:Nat)):=HB2.out.c6
  go_wp2_with (refine AX HB2.out rfl _ rfl rfl ?_)
  refine(AT.out _ _ ⟨_,rfl,HG2.out⟩).mono (Al HR2 HW2 fun A7 c7 w7 HR7 HW7 HG7=>?_)
  clear HB2 HR2 HW2 HG2
  go_wp2_with (refine AQ HR7.out hsR rfl _ _ rfl rfl rfl rfl ?_;intro w8 hB8 hk8 hs8)
  exact BX rfl rfl rfl hB8 HG7 HR7 HW7 hk8 Ai
end Go.Proofs.YtoaabebgmdbjeaaGreatDoor
namespace Go.Proofs.YtoaabebgmdbjeaaGreatDoor
open Go Go.RowKit
structure Hq (w:World):Prop where
 spans:D6 w
 signs:GZ w
 qd:JZ w
 flags:Df w
theorem Hq.keep {w w':World} (h:Hq w) (hb:Below w.heap.size w w'):Hq w':=⟨h.spans.keep hb,h.signs.keep hb,h.qd.keep hb,h.flags.keep hb⟩
theorem KV (l:List Int) (i:Nat):Ch l (i:Int)=if l.length<=i then-1 else l.getD i 0:=by
 unfold Ch
 by_cases h:l.length<=i
 ·rw [if_pos (.inr (by omega)),if_pos h]
 ·rw [if_neg (by omega),if_neg h]
  simp
theorem Ig {l:List Int} (hl: ∀x∈l, -1<=x/\x<=65535) (i:Nat):(l.length<=i/\l.getD i 0=0)\/(¬l.length<=i/\ -1<=l.getD i 0/\l.getD i 0<=65535):=by
 by_cases h:l.length<=i
 ·refine .inl ⟨h,?_⟩
  rw [List.getD_eq_getElem?_getD,List.getElem?_eq_none h]
  rfl
 ·refine .inr ⟨h,?_⟩
  have hi:i<l.length:=by omega
  rw [List.getD_eq_getElem?_getD,List.getElem?_eq_getElem hi]
  exact hl _ (List.getElem_mem hi)
theorem SN.LG {l:List Int} (hl: ∀x∈l, -1<=x/\x<=65535) (i:Nat):1<=SN.Bd l i 1/\SN.Bd l i 1<=65535:=by
 unfold SN.Bd
 rcases Ig hl i with ⟨_,e⟩ | ⟨_,h1,h2⟩
 ·rw [e]
  simp
 ·split<;>omega
theorem Wz {l:List Int} (hl: ∀x∈l, -1<=x/\x<=65535) (i:Nat):Nz l (i:Int) 1 1 65535=SN.Bd l i 1:=by
 show min (max (if Ch l i= -1\/(Ch l i=0/\(0:Int)<1) then 1 else Ch l i) 1) 65535=SN.Bd l i 1
 unfold SN.Bd
 rw [KV]
 rcases Ig hl i with ⟨h,e⟩ | ⟨h,h1,h2⟩
 ·rw [if_pos h,e]
  decide
 ·rw [if_neg h]
  generalize l.getD i 0=x at h1 h2⊢
  split<;>split<;>omega
theorem Tk {l:List Int} (hl: ∀x∈l, -1<=x/\x<=65535):Nz l 0 0 0 65535=SN.Bd l 0 0:=by
 show min (max (if Ch l 0= -1\/(Ch l 0=0/\(0:Int)<0) then 0 else Ch l 0) 0) 65535=SN.Bd l 0 0
 unfold SN.Bd
 rw [show Ch l 0=_ from KV l 0]
 rcases Ig hl 0 with ⟨h,e⟩ | ⟨h,h1,h2⟩
 ·rw [if_pos h,e]
  decide
 ·rw [if_neg h]
  generalize l.getD 0 0=x at h1 h2⊢
  split<;>split<;>omega
theorem W9 {l:List Int} (hl: ∀x∈l, -1<=x/\x<=65535) (R:Nat) (hR:1<=R):Nz l 1 R 1 R=min (SN.Bd l 1 R) R:=by
 show min (max (if Ch l 1= -1\/(Ch l 1=0/\(0:Int)<1) then (R:Int) else Ch l 1) 1) R=min (SN.Bd l 1 R) R
 unfold SN.Bd
 rw [show Ch l 1=_ from KV l 1]
 rcases Ig hl 1 with ⟨h,e⟩ | ⟨h,h1,h2⟩
 ·rw [if_pos h,e]
  simp
  omega
 ·rw [if_neg h]
  generalize l.getD 1 0=x at h1 h2⊢
  split<;>split<;>omega
theorem Jv (kd rn pv it fn:Int) (Ae:Option Addr) (n c B:Nat) (tx:ByteArray) (l:List Int) (i:Nat) (v:Int) (hv:SN.Bd l i 1=v) (w:World) (hl:Seen w B Ae n (l.map (Value.int .i64))) (hB:B<=w.heap.size) (hlb: ∀x∈l, -1<=x/\x<=65535):
  Calls Tryz.prog 168 #[.agg #[.int .i64 kd,.int .i32 rn,.int .u8 pv,.int .u8 it,.int .u8 fn,.slice Ae n c,.string tx],.int .i64 i] w fun e w'=>e=.returned (.int .i64 v)/\Below w.heap.size w w':=by
 have bb:=(Below.refl w.heap.size w).alloc (Nat.le_refl _) (.cells #[.int .i64 kd,.int .i32 rn,.int .u8 pv,.int .u8 it,.int .u8 fn,.slice Ae n c,.string tx] 34)
 have hE:=Box.new w 34 #[.int .i64 kd,.int .i32 rn,.int .u8 pv,.int .u8 it,.int .u8 fn,.slice Ae n c,.string tx]
 generalize hw1:w.alloc (.cells #[.int .i64 kd,.int .i32 rn,.int .u8 pv,.int .u8 it,.int .u8 fn,.slice Ae n c,.string tx] 34)=w1 at bb hE
 have AR:=Ox kd rn pv it fn Ae n c l tx i 1 1 65535 w1 ((hl.below (bb.mono hB)).more (Nat.le_trans hB bb.size))
 rw [Wz hlb,hv] at AR
 have AR:=hide AR
 have e0:w1.cell? ⟨w.heap.size,0,none⟩=some (.int .i64 kd):=hE.cell 0
 have e1:w1.cell? ⟨w.heap.size,1,none⟩=some (.int .i32 rn):=hE.cell 1
 have e2:w1.cell? ⟨w.heap.size,2,none⟩=some (.int .u8 pv):=hE.cell 2
 have e3:w1.cell? ⟨w.heap.size,3,none⟩=some (.int .u8 it):=hE.cell 3
 have e4:w1.cell? ⟨w.heap.size,4,none⟩=some (.int .u8 fn):=hE.cell 4
 have e5:w1.cell? ⟨w.heap.size,5,none⟩=some (.slice Ae n c):=hE.cell 5
 have e6:w1.cell? ⟨w.heap.size,6,none⟩=some (.string tx):=hE.cell 6
 have BB:=hide bb
 clear hl hv bb hE hlb
 go_enter Tryz.func168,Tryz.ntmps168
 go_upto_region 1 with fail
 clear hw1
 go_wp2_with fail
 refine AR.out.mono ?_
 rintro e w2 ⟨rfl,hb⟩
 have hbb:=hide (BB.out.trans (hb.mono BB.out.size))
 clear hb BB AR e0 e1 e2 e3 e4 e5 e6
 go_wp2_with fail
 go_ret
 exact⟨rfl,hbb.out⟩
theorem Mf (kd rn pv it fn:Int) (Ae:Option Addr) (n c B:Nat) (tx:ByteArray) (l:List Int) (v:Int) (hv:SN.Bd l 0 0=v) (w:World) (hl:Seen w B Ae n (l.map (Value.int .i64))) (hB:B<=w.heap.size) (hlb: ∀x∈l, -1<=x/\x<=65535):
  Calls Tryz.prog 194 #[.agg #[.int .i64 kd,.int .i32 rn,.int .u8 pv,.int .u8 it,.int .u8 fn,.slice Ae n c,.string tx]] w fun e w'=>e=.returned (.int .i64 v)/\Below w.heap.size w w':=by
 have bb:=(Below.refl w.heap.size w).alloc (Nat.le_refl _) (.cells #[.int .i64 kd,.int .i32 rn,.int .u8 pv,.int .u8 it,.int .u8 fn,.slice Ae n c,.string tx] 34)
 have hE:=Box.new w 34 #[.int .i64 kd,.int .i32 rn,.int .u8 pv,.int .u8 it,.int .u8 fn,.slice Ae n c,.string tx]
 generalize hw1:w.alloc (.cells #[.int .i64 kd,.int .i32 rn,.int .u8 pv,.int .u8 it,.int .u8 fn,.slice Ae n c,.string tx] 34)=w1 at bb hE
 have AR:=Ox kd rn pv it fn Ae n c l tx 0 0 0 65535 w1 ((hl.below (bb.mono hB)).more (Nat.le_trans hB bb.size))
 rw [Tk hlb,hv] at AR
 have AR:=hide AR
 have e0:w1.cell? ⟨w.heap.size,0,none⟩=some (.int .i64 kd):=hE.cell 0
 have e1:w1.cell? ⟨w.heap.size,1,none⟩=some (.int .i32 rn):=hE.cell 1
 have e2:w1.cell? ⟨w.heap.size,2,none⟩=some (.int .u8 pv):=hE.cell 2
 have e3:w1.cell? ⟨w.heap.size,3,none⟩=some (.int .u8 it):=hE.cell 3
 have e4:w1.cell? ⟨w.heap.size,4,none⟩=some (.int .u8 fn):=hE.cell 4
 have e5:w1.cell? ⟨w.heap.size,5,none⟩=some (.slice Ae n c):=hE.cell 5
 have e6:w1.cell? ⟨w.heap.size,6,none⟩=some (.string tx):=hE.cell 6
 have BB:=hide bb
 clear hl hv bb hE hlb
 go_enter Tryz.func194,Tryz.ntmps194
 go_upto_region 1 with fail
 clear hw1
 go_wp2_with fail
 refine AR.out.mono ?_
 rintro e w2 ⟨rfl,hb⟩
 have hbb:=hide (BB.out.trans (hb.mono BB.out.size))
 clear hb BB AR e0 e1 e2 e3 e4 e5 e6
 go_wp2_with fail
 go_ret
 exact⟨rfl,hbb.out⟩
theorem SN.Zr {s:SN.Sc} (h:s.row<s.g.rows) (hk:1<=s.g.AB):SN.atS s s.row 0=(s.u5 false).u4 0:=by
 have e1:SN.pin (s.row:Int) s.g.rows=s.row:=SN.Ol h
 have e2:SN.pin (0:Int) s.g.AB=0:=SN.Ol (r:=0) hk
 unfold SN.atS
 rw [e1,e2]
 rfl
theorem SN.Tm {s:SN.Sc} (h:SN.Ac s):SN.Dx (SN.atS s s.row 0)=SN.Dx (s.u4 0):=by
 rw [SN.Zr h.row h.g.2.2.1]
 exact(SN.Ul s).symm
end Go.Proofs.YtoaabebgmdbjeaaGreatDoor
