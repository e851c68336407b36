/- A part of the proof: ScreenEq, ScreenYes, CursorUse. -/
import Derived.Test.YtoaabebgmdbjeaaGreatDoorTa11
import Derived.Test.YtoaabebgmdbjeaaGreatDoorTa13
set_option maxRecDepth 100000
set_option maxHeartbeats 16000000
set_option linter.unusedVariables false
namespace Go.Proofs.YtoaabebgmdbjeaaGreatDoor
open Go Go.RowKit
end Go.Proofs.YtoaabebgmdbjeaaGreatDoor
namespace Go.Proofs.YtoaabebgmdbjeaaGreatDoor
open Go.RowKit
end Go.Proofs.YtoaabebgmdbjeaaGreatDoor
namespace Go.Proofs.YtoaabebgmdbjeaaGreatDoor
open Go.RowKit
theorem BM {w:World} {g:Nat} {cs:Array Value} (h:Box w g 43 cs) (hs:cs.size=29) (ρ:Operand->Value) (o:Oper) {y:Operand} (ho:o.op=.load 43 y) (hy:ρ y=.pointer (some ⟨g,0,none⟩)):
  (execOp ρ o).run Tryz.prog w=.ok (.value (.agg cs)) w:=by
 obtain⟨d,hu,hd⟩:=IZ
 have e:(.agg cs:Value)=.agg cs.toList.toArray:=by simp
 unfold execOp
 simp only [ho,hy,Instr.loadAt,Instr.sureAddr,Sem.run_bind,Sem.run_pure,Result.andThen_ok,run_loadVar_mid w g 0 43 cs.toList d h.rangeAt hu hd (by rw [Fp];simp [hs])]
def D5 (S:SN.Sc) (v:Value) (w:World):Prop:= ∃A c,v=.agg (scA (.slice A (S.g.rows*S.g.AB) c) S)/\IsG w S.g (gv S.g.rows S.g.AB (.slice A (S.g.rows*S.g.AB) c))
theorem D5.stays {Ts:List TypeId} {S:SN.Sc} (h:Ts.all (fun x=>x !=66)=true):Fy Ts (D5 S):=
 ⟨fun v w w' ⟨A,c,h1,h2⟩ hb=>⟨A,c,h1,h2.low hb⟩,fun v w w' g' T' cs' ⟨A,c,h1,h2⟩ hb hT hk=>⟨A,c,h1,h2.kept hb (fun e=>by
  have:=List.all_eq_true.1 h _ hT
  simp [e] at this) hk⟩⟩
theorem Em {S:SN.Sc} {v:Value} {w:World} (h:IsS w S v):D5 S v w:=by
 obtain⟨x,rfl,hg⟩:=h
 obtain⟨A,c,rfl⟩:=Ad hg
 exact⟨A,c,rfl,hg⟩
end Go.Proofs.YtoaabebgmdbjeaaGreatDoor
namespace Go.Proofs.YtoaabebgmdbjeaaGreatDoor
open Go.RowKit
namespace SN
end SN
end Go.Proofs.YtoaabebgmdbjeaaGreatDoor
namespace Go.Proofs.YtoaabebgmdbjeaaGreatDoor
open Go.RowKit
end Go.Proofs.YtoaabebgmdbjeaaGreatDoor
namespace Go.Proofs.YtoaabebgmdbjeaaGreatDoor
open Go.RowKit
end Go.Proofs.YtoaabebgmdbjeaaGreatDoor
namespace Go.Proofs.YtoaabebgmdbjeaaGreatDoor
open Go Go.RowKit
theorem SN.dH (z:Int) {R:Nat} (h:1<=R):SN.pin (max z 0) R=SN.pin z R:=by
 unfold SN.pin
 omega
theorem SN.Xc (z:Int) {R:Nat} (h:1<=R):SN.pin (min z ((R:Int)-1)) R=SN.pin z R:=by
 unfold SN.pin
 omega
theorem Ol (z:Int) (R p:Nat) (h:1<=R) (hR:R<=1000) (hz: -1099511627776<=z/\z<=1099511627776) (hp:SN.pin z R=p) (w:World):
  Calls Tryz.prog 144 #[.int .i64 z,.int .i64 R] w fun e w'=>e=.returned (.int .i64 p)/\w'=w:=by
 have EP:=hide (show(p:Int)=min (max z 0) ((R:Int)-1) by unfold SN.pin at hp;omega)
 clear hp
 go_enter Tryz.func144,Tryz.ntmps144
 go_wp2_with fail
 all_goals
  have ep:=EP.out
  go_ret
  refine⟨congrArg Ending.returned (congrArg (Value.int .i64) ?_),rfl⟩
  omega
theorem LC (s:SN.Sc) (v:Value) (hs:PG.BF s.g) (w:World) (h:IsS w s v):Calls Tryz.prog 14 #[v] w (Am w s):=
 (XO s v hs w h).mono fun e w' ⟨x,e1,ho,hb⟩=>⟨_,e1,⟨x,rfl,⟨x,rfl,own_base' ho (Nat.zero_le _)⟩⟩,hb⟩
theorem EJ (s:SN.Sc) (v:Value) (hs:SN.Ac s) (w:World) (h:IsS w s v):Calls Tryz.prog 14 #[v] w (Am w s):=LC s v hs.g w h
theorem Xd (s:SN.Sc) (v:Value) (r c:Int) (w:World) (hs:PG.BF s.g) (hr: -1099511627776<=r/\r<=1099511627776) (hc: -1099511627776<=c/\c<=1099511627776) (h:IsS w s v):Calls Tryz.prog 109 #[v,.int .i64 r,.int .i64 c] w (Am w (SN.atS s r c)):=by
 obtain⟨x,rfl,hg⟩:=h
 obtain⟨A,cp,rfl⟩:=Ad hg
 have hgr:=hs.2.1
 have hgc:=hs.2.2.2.1
 have hR1:=hs.1
 have hK1:=hs.2.2.1
 have HG:=hide hg
 obtain⟨p,hp⟩: ∃p,SN.pin r s.g.rows=p:=⟨_,rfl⟩
 obtain⟨q,hq⟩: ∃q,SN.pin c s.g.AB=q:=⟨_,rfl⟩
 have NR:=hide (fun w'=>Ol r s.g.rows p hR1 (by omega) hr hp w')
 have NC:=hide (fun w'=>Ol c s.g.AB q hK1 (by omega) hc hq w')
 have SC:=hide (fun w' v' h=>LC s v' hs w' h)
 have HS:=hide (show((s.u3 p).u4 q).u5 false=SN.atS s r c by unfold SN.atS;rw [hp,hq])
 have HGE:=hide (show(SN.atS s r c).g=s.g from rfl)
 generalize SN.atS s r c=U at HS HGE⊢
 clear hp hq hg
 go_enter Tryz.func109,Tryz.ntmps109
 go_upto_region 1 with (refine BK HG _ rfl rfl rfl rfl rfl ?_;intro g gR w2 csR hsR HB2 HW2 HR2 HG2 hne hg1 Ag)
 clear HG
 go_wp2_with (refine AQ HB2.out rfl _ rfl rfl ?_)
 refine(SC.out _ _ ⟨_,rfl,HG2.out⟩).mono ?_
 rintro e w3 ⟨v3,rfl,⟨x3,rfl,hg3⟩,hb3⟩
 obtain⟨A3,c3,rfl⟩:=Ad hg3
 have HB3:=hide (HB2.out.below hb3 HB2.out.lt)
 have HR3:=hide (HR2.out.below hb3 HR2.out.lt)
 have HW3:=hide (HW2.out.trans (hb3.mono HW2.out.size))
 have HG3:=hide hg3
 clear hb3 hg3 HB2 HR2 HW2 HG2
 go_upto_region 2 with (refine AJ HB3.out rfl rfl _ _ rfl rfl rfl rfl ?_;intro w4 hB4 hk4 hs4)
 have HB4:=hide hB4
 have HR4:=hide (HR3.out.kept hk4 (by simp;exact hne))
 have HW4:=hide (HW3.out.trans (hk4.toBelow HW3.out.size (fun k hh=>by simp at hh;omega)))
 have HG4:=hide (HG3.out.kept HB3.out (by decide) hk4)
 clear hB4 hk4 hs4 HB3 HR3 HW3 HG3
 have k0:w4.cell? ⟨g,0,none⟩=some (.int .i64 (s.g.rows:Nat)):=HB4.out.c0
 have k1:w4.cell? ⟨g,1,none⟩=some (.int .i64 (s.g.AB:Nat)):=HB4.out.c1
 have k3:=HB4.out.c3
 have k4:=HB4.out.c4
 have z3:=HB4.out.fz 3
 have z4:=HB4.out.fz 4
 go_simp
 go_cut [] from 9 to 20 (fun wx=>Ai wx g (.slice A3 (s.g.rows*s.g.AB) c3) ((s.u3 p).u4 q)/\Box wx gR 43 csR/\Below w.heap.size w wx/\IsG wx s.g (gv s.g.rows s.g.AB (.slice A3 (s.g.rows*s.g.AB) c3)))
 case first=>
  go_region_with (first | (go_at_call 144;first | (refine(NR.out _).mono ?_;rintro e w' ⟨rfl,rfl⟩) | (refine(NC.out _).mono ?_;rintro e w' ⟨rfl,rfl⟩)))
  all_goals
   have hk5:Kept [some g] w4 (((w4.setCell ⟨g,3,none⟩ (.int .i64 (p:Nat))).setCell ⟨g,4,none⟩ (.int .i64 (q:Nat))).drew):=(((Kept.refl [some g] w4).setCell (p:=⟨g,3,none⟩) (From.mem (by simp)) (.int .i64 (p:Nat))).setCell (p:=⟨g,4,none⟩) (From.mem (by simp)) (.int .i64 (q:Nat))).drew
   have hB5:Ai (((w4.setCell ⟨g,3,none⟩ (.int .i64 (p:Nat))).setCell ⟨g,4,none⟩ (.int .i64 (q:Nat))).drew) g (.slice A3 (s.g.rows*s.g.AB) c3) ((s.u3 p).u4 q):=Box.drew ((HB4.out.CV p).WM q)
   go_wp2_with fail
   go_meet
   exact⟨hB5,HR4.out.kept hk5 (by simp;exact hne),HW4.out.trans (hk5.toBelow HW4.out.size (fun k hh=>by simp at hh;omega)),HG4.out.kept HB4.out (by decide) hk5⟩
 case rest=>
  obtain⟨hB5,hR5,hW5,hG5⟩:=hcut
  rename World=>w5
  have k5:=hB5.c5
  have z5:=hB5.fz 5
  go_upto_region 4 with fail
  have HB6:=hide (hB5.JZ false)
  have HR6:=hide (hR5.far (p:=⟨g,5,none⟩) hne (.bool false))
  have HW6:=hide (hW5.setCell (p:=⟨g,5,none⟩) hg1 (.bool false))
  have HG6:=hide (IsG.puts hG5 hB5 5 (.bool false))
  generalize (w5.setCell ⟨g,5,none⟩ (.bool false))=w6 at HB6 HR6 HW6 HG6⊢
  clear k5 z5 hB5 hR5 hW5 hG5
  go_wp2_with (first | (refine AQ HB6.out rfl _ rfl rfl ?_) | (refine AJ HR6.out hsR rfl _ _ rfl rfl rfl rfl ?_;intro w8 hB8 hk8 hs8))
  refine bodyPost_ret (Bu rfl rfl hB8) rfl ⟨_,rfl,⟨_,by rw [<- HS.out],?_⟩,HW6.out.trans (hk8.toBelow HW6.out.size (fun k hh=>by simp at hh;omega))⟩
  rw [HGE.out]
  exact HG6.out.kept HR6.out (by decide) hk8
theorem Ei (s:SN.Sc) (v:Value) (r c:Int) (w:World) (hs:SN.Ac s) (hr: -1099511627776<=r/\r<=1099511627776) (hc: -1099511627776<=c/\c<=1099511627776) (h:IsS w s v):Calls Tryz.prog 109 #[v,.int .i64 r,.int .i64 c] w (Am w (SN.atS s r c)):=Xd s v r c w hs.g hr hc h
theorem SN.iJ {s:SN.Sc} (h:SN.Ac s) (n:Nat):SN.atS s (max ((s.row:Int)-n) (if s.top<=s.row then (s.top:Int) else 0)) s.col=SN.upS s n:=by
 unfold SN.upS SN.upR
 split
 ·rfl
 ·unfold SN.atS
  rw [SN.dH _ h.g.1]
theorem SN.ZK {s:SN.Sc} (h:SN.Ac s) (n:Nat):SN.atS s (min ((s.row:Int)+n) (if s.row<=s.bot then (s.bot:Int) else (s.g.rows:Int)-1)) s.col=SN.II s n:=by
 unfold SN.II SN.Rk
 split
 ·rfl
 ·unfold SN.atS
  rw [SN.Xc _ h.g.1]
theorem Xe (s:SN.Sc) (v:Value) (n:Nat) (w:World) (hn:n<=65535) (hs:SN.Ac s) (h:IsS w s v):Calls Tryz.prog 169 #[v,.int .i64 n] w (Am w (SN.upS s n)):=by
 obtain⟨x,rfl,hg⟩:=h
 obtain⟨A,cp,rfl⟩:=Ad hg
 have hgr:=hs.g.2.1
 have hgc:=hs.g.2.2.2.1
 have hR1:=hs.g.1
 have hK1:=hs.g.2.2.1
 have HG:=hide hg
 have hrow:=hs.row
 have Bp:=hs.col
 have htop:=SN.Cn hs
 have Ij:=hs.bot
 have hU:=SN.iJ hs n
 obtain⟨z,hz⟩: ∃z,max ((s.row:Int)-n) (if s.top<=s.row then (s.top:Int) else 0)=z:=⟨_,rfl⟩
 rw [hz] at hU
 have hzb: -1099511627776<=z/\z<=1099511627776:=by
  rw [<- hz]
  split<;>omega
 have AT:=hide (fun w' v' h=>Ei s v' z s.col w' hs hzb (by omega) h)
 rw [hU] at AT
 generalize SN.upS s n=U at AT⊢
 clear hU hg hzb hs
 by_cases hc:s.top<=s.row
 ·have e1:(s.top:Int)<=(s.row:Int):=by omega
  rw [if_pos hc] at hz
  by_cases hm:(s.row:Int)-n<(s.top:Int)
  ·obtain rfl:(s.top:Int)=z:=by omega
   clear hz
   go_enter Tryz.func169,Tryz.ntmps169
   go_upto_region 1 with (refine BK HG _ rfl rfl rfl rfl rfl ?_;intro g gR w2 csR hsR HB2 HW2 HR2 HG2 hne hg1 Ag)
   clear HG
   have k3:w2.cell? ⟨g,3,none⟩=some (.int .i64 (s.row:Nat)):=HB2.out.c3
   have k4:w2.cell? ⟨g,4,none⟩=some (.int .i64 (s.col:Nat)):=HB2.out.c4
   have k6:w2.cell? ⟨g,6,none⟩=some (.int .i64 (s.top:Nat)):=HB2.out.c6
   go_wp2_with (refine AQ HB2.out rfl _ rfl rfl ?_)
   refine(AT.out _ _ ⟨_,rfl,HG2.out⟩).mono (Ak HR2 HW2 fun A7 c7 w7 HR7 HW7 HG7=>?_)
   clear HB2 HR2 HW2 HG2
   go_wp2_with (refine AJ HR7.out hsR rfl _ _ rfl rfl rfl rfl ?_;intro w8 hB8 hk8 hs8)
   exact BJ rfl rfl rfl hB8 HG7 HR7 HW7 hk8 Ag
  ·obtain rfl:(s.row:Int)-n=z:=by omega
   clear hz
   go_enter Tryz.func169,Tryz.ntmps169
   go_upto_region 1 with (refine BK HG _ rfl rfl rfl rfl rfl ?_;intro g gR w2 csR hsR HB2 HW2 HR2 HG2 hne hg1 Ag)
   clear HG
   have k3:w2.cell? ⟨g,3,none⟩=some (.int .i64 (s.row:Nat)):=HB2.out.c3
   have k4:w2.cell? ⟨g,4,none⟩=some (.int .i64 (s.col:Nat)):=HB2.out.c4
   have k6:w2.cell? ⟨g,6,none⟩=some (.int .i64 (s.top:Nat)):=HB2.out.c6
   go_wp2_with (refine AQ HB2.out rfl _ rfl rfl ?_)
   refine(AT.out _ _ ⟨_,rfl,HG2.out⟩).mono (Ak HR2 HW2 fun A7 c7 w7 HR7 HW7 HG7=>?_)
   clear HB2 HR2 HW2 HG2
   go_wp2_with (refine AJ HR7.out hsR rfl _ _ rfl rfl rfl rfl ?_;intro w8 hB8 hk8 hs8)
   exact BJ rfl rfl rfl hB8 HG7 HR7 HW7 hk8 Ag
 ·have e1: ¬((s.top:Int)<=(s.row:Int)):=by omega
  rw [if_neg hc] at hz
  by_cases hm:(s.row:Int)-n<0
  ·obtain rfl:0=z:=by omega
   clear hz
   go_enter Tryz.func169,Tryz.ntmps169
   go_upto_region 1 with (refine BK HG _ rfl rfl rfl rfl rfl ?_;intro g gR w2 csR hsR HB2 HW2 HR2 HG2 hne hg1 Ag)
   clear HG
   have k3:w2.cell? ⟨g,3,none⟩=some (.int .i64 (s.row:Nat)):=HB2.out.c3
   have k4:w2.cell? ⟨g,4,none⟩=some (.int .i64 (s.col:Nat)):=HB2.out.c4
   have k6:w2.cell? ⟨g,6,none⟩=some (.int .i64 (s.top:Nat)):=HB2.out.c6
   go_wp2_with (refine AQ HB2.out rfl _ rfl rfl ?_)
   refine(AT.out _ _ ⟨_,rfl,HG2.out⟩).mono (Ak HR2 HW2 fun A7 c7 w7 HR7 HW7 HG7=>?_)
   clear HB2 HR2 HW2 HG2
   go_wp2_with (refine AJ HR7.out hsR rfl _ _ rfl rfl rfl rfl ?_;intro w8 hB8 hk8 hs8)
   exact BJ rfl rfl rfl hB8 HG7 HR7 HW7 hk8 Ag
  ·obtain rfl:(s.row:Int)-n=z:=by omega
   clear hz
   go_enter Tryz.func169,Tryz.ntmps169
   go_upto_region 1 with (refine BK HG _ rfl rfl rfl rfl rfl ?_;intro g gR w2 csR hsR HB2 HW2 HR2 HG2 hne hg1 Ag)
   clear HG
   have k3:w2.cell? ⟨g,3,none⟩=some (.int .i64 (s.row:Nat)):=HB2.out.c3
   have k4:w2.cell? ⟨g,4,none⟩=some (.int .i64 (s.col:Nat)):=HB2.out.c4
   have k6:w2.cell? ⟨g,6,none⟩=some (.int .i64 (s.top:Nat)):=HB2.out.c6
   go_wp2_with (refine AQ HB2.out rfl _ rfl rfl ?_)
   refine(AT.out _ _ ⟨_,rfl,HG2.out⟩).mono (Ak HR2 HW2 fun A7 c7 w7 HR7 HW7 HG7=>?_)
   clear HB2 HR2 HW2 HG2
   go_wp2_with (refine AJ HR7.out hsR rfl _ _ rfl rfl rfl rfl ?_;intro w8 hB8 hk8 hs8)
   exact BJ rfl rfl rfl hB8 HG7 HR7 HW7 hk8 Ag
theorem Om (s:SN.Sc) (v:Value) (n:Nat) (w:World) (hn:n<=65535) (hs:SN.Ac s) (h:IsS w s v):Calls Tryz.prog 170 #[v,.int .i64 n] w (Am w (SN.II s n)):=by
 obtain⟨x,rfl,hg⟩:=h
 obtain⟨A,cp,rfl⟩:=Ad hg
 have hgr:=hs.g.2.1
 have hgc:=hs.g.2.2.2.1
 have hR1:=hs.g.1
 have hK1:=hs.g.2.2.1
 have HG:=hide hg
 have hrow:=hs.row
 have Bp:=hs.col
 have htop:=SN.Cn hs
 have Ij:=hs.bot
 have hU:=SN.ZK hs n
 obtain⟨z,hz⟩: ∃z,min ((s.row:Int)+n) (if s.row<=s.bot then (s.bot:Int) else (s.g.rows:Int)-1)=z:=⟨_,rfl⟩
 rw [hz] at hU
 have hzb: -1099511627776<=z/\z<=1099511627776:=by
  rw [<- hz]
  split<;>omega
 have AT:=hide (fun w' v' h=>Ei s v' z s.col w' hs hzb (by omega) h)
 rw [hU] at AT
 generalize SN.II s n=U at AT⊢
 clear hU hg hzb hs
 by_cases hc:s.row<=s.bot
 ·have e1:(s.row:Int)<=(s.bot:Int):=by omega
  rw [if_pos hc] at hz
  by_cases hm:(s.bot:Int)<(s.row:Int)+n
  ·obtain rfl:(s.bot:Int)=z:=by omega
   clear hz
   go_enter Tryz.func170,Tryz.ntmps170
   go_upto_region 1 with (refine BK HG _ rfl rfl rfl rfl rfl ?_;intro g gR w2 csR hsR HB2 HW2 HR2 HG2 hne hg1 Ag)
   clear HG
   have k0:w2.cell? ⟨g,0,none⟩=some (.int .i64 (s.g.rows:Nat)):=HB2.out.c0
   have k3:w2.cell? ⟨g,3,none⟩=some (.int .i64 (s.row:Nat)):=HB2.out.c3
   have k4:w2.cell? ⟨g,4,none⟩=some (.int .i64 (s.col:Nat)):=HB2.out.c4
   have k7:w2.cell? ⟨g,7,none⟩=some (.int .i64 (s.bot:Nat)):=HB2.out.c7
   go_wp2_with (refine AQ HB2.out rfl _ rfl rfl ?_)
   refine(AT.out _ _ ⟨_,rfl,HG2.out⟩).mono (Ak HR2 HW2 fun A7 c7 w7 HR7 HW7 HG7=>?_)
   clear HB2 HR2 HW2 HG2
   go_wp2_with (refine AJ HR7.out hsR rfl _ _ rfl rfl rfl rfl ?_;intro w8 hB8 hk8 hs8)
   exact BJ rfl rfl rfl hB8 HG7 HR7 HW7 hk8 Ag
  ·obtain rfl:(s.row:Int)+n=z:=by omega
   clear hz
   go_enter Tryz.func170,Tryz.ntmps170
   go_upto_region 1 with (refine BK HG _ rfl rfl rfl rfl rfl ?_;intro g gR w2 csR hsR HB2 HW2 HR2 HG2 hne hg1 Ag)
   clear HG
   have k0:w2.cell? ⟨g,0,none⟩=some (.int .i64 (s.g.rows:Nat)):=HB2.out.c0
   have k3:w2.cell? ⟨g,3,none⟩=some (.int .i64 (s.row:Nat)):=HB2.out.c3
   have k4:w2.cell? ⟨g,4,none⟩=some (.int .i64 (s.col:Nat)):=HB2.out.c4
   have k7:w2.cell? ⟨g,7,none⟩=some (.int .i64 (s.bot:Nat)):=HB2.out.c7
   go_wp2_with (refine AQ HB2.out rfl _ rfl rfl ?_)
   refine(AT.out _ _ ⟨_,rfl,HG2.out⟩).mono (Ak HR2 HW2 fun A7 c7 w7 HR7 HW7 HG7=>?_)
   clear HB2 HR2 HW2 HG2
   go_wp2_with (refine AJ HR7.out hsR rfl _ _ rfl rfl rfl rfl ?_;intro w8 hB8 hk8 hs8)
   exact BJ rfl rfl rfl hB8 HG7 HR7 HW7 hk8 Ag
 ·have e1: ¬((s.row:Int)<=(s.bot:Int)):=by omega
  rw [if_neg hc] at hz
  by_cases hm:(s.g.rows:Int)-1<(s.row:Int)+n
  ·obtain rfl:(s.g.rows:Int)-1=z:=by omega
   clear hz
   go_enter Tryz.func170,Tryz.ntmps170
   go_upto_region 1 with (refine BK HG _ rfl rfl rfl rfl rfl ?_;intro g gR w2 csR hsR HB2 HW2 HR2 HG2 hne hg1 Ag)
   clear HG
   have k0:w2.cell? ⟨g,0,none⟩=some (.int .i64 (s.g.rows:Nat)):=HB2.out.c0
   have k3:w2.cell? ⟨g,3,none⟩=some (.int .i64 (s.row:Nat)):=HB2.out.c3
   have k4:w2.cell? ⟨g,4,none⟩=some (.int .i64 (s.col:Nat)):=HB2.out.c4
   have k7:w2.cell? ⟨g,7,none⟩=some (.int .i64 (s.bot:Nat)):=HB2.out.c7
   go_wp2_with (refine AQ HB2.out rfl _ rfl rfl ?_)
   refine(AT.out _ _ ⟨_,rfl,HG2.out⟩).mono (Ak HR2 HW2 fun A7 c7 w7 HR7 HW7 HG7=>?_)
   clear HB2 HR2 HW2 HG2
   go_wp2_with (refine AJ HR7.out hsR rfl _ _ rfl rfl rfl rfl ?_;intro w8 hB8 hk8 hs8)
   exact BJ rfl rfl rfl hB8 HG7 HR7 HW7 hk8 Ag
  ·obtain rfl:(s.row:Int)+n=z:=by omega
   clear hz
   go_enter Tryz.func170,Tryz.ntmps170
   go_upto_region 1 with (refine BK HG _ rfl rfl rfl rfl rfl ?_;intro g gR w2 csR hsR HB2 HW2 HR2 HG2 hne hg1 Ag)
   clear HG
   have k0:w2.cell? ⟨g,0,none⟩=some (.int .i64 (s.g.rows:Nat)):=HB2.out.c0
   have k3:w2.cell? ⟨g,3,none⟩=some (.int .i64 (s.row:Nat)):=HB2.out.c3
   have k4:w2.cell? ⟨g,4,none⟩=some (.int .i64 (s.col:Nat)):=HB2.out.c4
   have k7:w2.cell? ⟨g,7,none⟩=some (.int .i64 (s.bot:Nat)):=HB2.out.c7
   go_wp2_with (refine AQ HB2.out rfl _ rfl rfl ?_)
   refine(AT.out _ _ ⟨_,rfl,HG2.out⟩).mono (Ak HR2 HW2 fun A7 c7 w7 HR7 HW7 HG7=>?_)
   clear HB2 HR2 HW2 HG2
   go_wp2_with (refine AJ HR7.out hsR rfl _ _ rfl rfl rfl rfl ?_;intro w8 hB8 hk8 hs8)
   exact BJ rfl rfl rfl hB8 HG7 HR7 HW7 hk8 Ag
theorem NI (s:SN.Sc) (v:Value) (r c:Int) (w:World) (hs:SN.Ac s) (hr: -1073741824<=r/\r<=1073741824) (hc: -1073741824<=c/\c<=1073741824) (h:IsS w s v):Calls Tryz.prog 171 #[v,.int .i64 r,.int .i64 c] w (Am w (SN.goS s r c)):=by
 obtain⟨x,rfl,hg⟩:=h
 obtain⟨A,cp,rfl⟩:=Ad hg
 have hgr:=hs.g.2.1
 have hgc:=hs.g.2.2.2.1
 have hR1:=hs.g.1
 have hK1:=hs.g.2.2.1
 have HG:=hide hg
 have hrow:=hs.row
 have Bp:=hs.col
 have htop:=SN.Cn hs
 have Ij:=hs.bot
 have hU:SN.atS s (SN.goR s r) c=SN.goS s r c:=rfl
 obtain⟨z,hz⟩: ∃z,SN.goR s r=z:=⟨_,rfl⟩
 rw [hz] at hU
 unfold SN.goR at hz
 have hzb: -1099511627776<=z/\z<=1099511627776:=by
  rw [<- hz]
  split<;>omega
 have AT:=hide (fun w' v' h=>Ei s v' z c w' hs hzb (by omega) h)
 rw [hU] at AT
 generalize SN.goS s r c=U at AT⊢
 clear hU hg hzb hs
 cases hO:s.org with
 | false=>
  rw [hO,if_neg (by decide)] at hz
  subst hz
  go_enter Tryz.func171,Tryz.ntmps171
  go_upto_region 1 with (refine BK HG _ rfl rfl rfl rfl rfl ?_;intro g gR w2 csR hsR HB2 HW2 HR2 HG2 hne hg1 Ag)
  clear HG
  have k16:w2.cell? ⟨g,16,none⟩=some (.bool false):=HB2.out.c16.trans (by rw [hO])
  go_wp2_with (refine AQ HB2.out rfl _ rfl rfl ?_)
  refine(AT.out _ _ ⟨_,rfl,HG2.out⟩).mono (Ak HR2 HW2 fun A7 c7 w7 HR7 HW7 HG7=>?_)
  clear HB2 HR2 HW2 HG2
  go_wp2_with (refine AJ HR7.out hsR rfl _ _ rfl rfl rfl rfl ?_;intro w8 hB8 hk8 hs8)
  exact BJ rfl rfl rfl hB8 HG7 HR7 HW7 hk8 Ag
 | true=>
  rw [hO,if_pos rfl] at hz
  by_cases hm:(s.bot:Int)<(s.top:Int)+r
  ·obtain rfl:(s.bot:Int)=z:=by omega
   clear hz
   go_enter Tryz.func171,Tryz.ntmps171
   go_upto_region 1 with (refine BK HG _ rfl rfl rfl rfl rfl ?_;intro g gR w2 csR hsR HB2 HW2 HR2 HG2 hne hg1 Ag)
   clear HG
   have k16:w2.cell? ⟨g,16,none⟩=some (.bool true):=HB2.out.c16.trans (by rw [hO])
   have k6:w2.cell? ⟨g,6,none⟩=some (.int .i64 (s.top:Nat)):=HB2.out.c6
   have k7:w2.cell? ⟨g,7,none⟩=some (.int .i64 (s.bot:Nat)):=HB2.out.c7
   go_upto_region 3 with fail
   go_wp2_with (refine AQ HB2.out rfl _ rfl rfl ?_)
   refine(AT.out _ _ ⟨_,rfl,HG2.out⟩).mono (Ak HR2 HW2 fun A7 c7 w7 HR7 HW7 HG7=>?_)
   clear HB2 HR2 HW2 HG2
   go_wp2_with (refine AJ HR7.out hsR rfl _ _ rfl rfl rfl rfl ?_;intro w8 hB8 hk8 hs8)
   exact BJ rfl rfl rfl hB8 HG7 HR7 HW7 hk8 Ag
  ·obtain rfl:(s.top:Int)+r=z:=by omega
   clear hz
   go_enter Tryz.func171,Tryz.ntmps171
   go_upto_region 1 with (refine BK HG _ rfl rfl rfl rfl rfl ?_;intro g gR w2 csR hsR HB2 HW2 HR2 HG2 hne hg1 Ag)
   clear HG
   have k16:w2.cell? ⟨g,16,none⟩=some (.bool true):=HB2.out.c16.trans (by rw [hO])
   have k6:w2.cell? ⟨g,6,none⟩=some (.int .i64 (s.top:Nat)):=HB2.out.c6
   have k7:w2.cell? ⟨g,7,none⟩=some (.int .i64 (s.bot:Nat)):=HB2.out.c7
   go_upto_region 3 with fail
   go_wp2_with (refine AQ HB2.out rfl _ rfl rfl ?_)
   refine(AT.out _ _ ⟨_,rfl,HG2.out⟩).mono (Ak HR2 HW2 fun A7 c7 w7 HR7 HW7 HG7=>?_)
   clear HB2 HR2 HW2 HG2
   go_wp2_with (refine AJ HR7.out hsR rfl _ _ rfl rfl rfl rfl ?_;intro w8 hB8 hk8 hs8)
   exact BJ rfl rfl rfl hB8 HG7 HR7 HW7 hk8 Ag
theorem Oo (s:SN.Sc) (v:Value) (w:World) (hs:SN.Ac s) (h:IsS w s v):Calls Tryz.prog 201 #[v] w (Am w (SN.IJ s)):=by
 obtain⟨x,rfl,hg⟩:=h
 obtain⟨A,cp,rfl⟩:=Ad hg
 have hgr:=hs.g.2.1
 have hgc:=hs.g.2.2.2.1
 have hR1:=hs.g.1
 have hK1:=hs.g.2.2.1
 have HG:=hide hg
 have hrow:=hs.row
 have Bp:=hs.col
 have htop:=SN.Cn hs
 have Ij:=hs.bot
 have AT:=hide (fun w' v' h=>(show Calls Tryz.prog 171 #[v',.int .i64 0,.int .i64 0] w' (Am w' (SN.IJ s)) from NI s v' 0 0 w' hs (by omega) (by omega) h))
 generalize SN.IJ s=U at AT⊢
 clear hg hs
 go_enter Tryz.func201,Tryz.ntmps201
 go_upto_region 1 with (refine BK HG _ rfl rfl rfl rfl rfl ?_;intro g gR w2 csR hsR HB2 HW2 HR2 HG2 hne hg1 Ag)
 clear HG
 go_wp2_with (refine AQ HB2.out rfl _ rfl rfl ?_)
 refine(AT.out _ _ ⟨_,rfl,HG2.out⟩).mono (Ak HR2 HW2 fun A7 c7 w7 HR7 HW7 HG7=>?_)
 clear HB2 HR2 HW2 HG2
 go_wp2_with (refine AJ HR7.out hsR rfl _ _ rfl rfl rfl rfl ?_;intro w8 hB8 hk8 hs8)
 exact BJ rfl rfl rfl hB8 HG7 HR7 HW7 hk8 Ag
theorem Oq (s:SN.Sc) (v:Value) (w:World) (hs:SN.Ac s) (h:IsS w s v):Calls Tryz.prog 164 #[v] w (Am w (SN.Jv s)):=by
 obtain⟨x,rfl,hg⟩:=h
 obtain⟨A,cp,rfl⟩:=Ad hg
 have hgr:=hs.g.2.1
 have hgc:=hs.g.2.2.2.1
 have hR1:=hs.g.1
 have hK1:=hs.g.2.2.1
 have HG:=hide hg
 have SC:=hide (fun w' v' h=>EJ s v' hs w' h)
 have HS:=hide (show s.uV (SN.bA s)=SN.Jv s from rfl)
 have HGE:=hide (show(SN.Jv s).g=s.g from rfl)
 generalize SN.Jv s=U at HS HGE⊢
 clear hg hs
 go_enter Tryz.func164,Tryz.ntmps164
 go_upto_region 1 with (refine BK HG _ rfl rfl rfl rfl rfl ?_;intro g gR w2 csR hsR HB2 HW2 HR2 HG2 hne hg1 Ag)
 clear HG
 go_wp2_with (refine AQ HB2.out rfl _ rfl rfl ?_)
 refine(SC.out _ _ ⟨_,rfl,HG2.out⟩).mono ?_
 rintro e w3 ⟨v3,rfl,⟨x3,rfl,hg3⟩,hb3⟩
 obtain⟨A3,c3,rfl⟩:=Ad hg3
 have HB3:=hide (HB2.out.below hb3 HB2.out.lt)
 have HR3:=hide (HR2.out.below hb3 HR2.out.lt)
 have HW3:=hide (HW2.out.trans (hb3.mono HW2.out.size))
 have HG3:=hide hg3
 clear hb3 hg3 HB2 HR2 HW2 HG2
 go_upto_region 2 with (refine AJ HB3.out rfl rfl _ _ rfl rfl rfl rfl ?_;intro w4 hB4 hk4 hs4)
 have HB4:=hide hB4
 have HR4:=hide (HR3.out.kept hk4 (by simp;exact hne))
 have HW4:=hide (HW3.out.trans (hk4.toBelow HW3.out.size (fun k hh=>by simp at hh;omega)))
 have HG4:=hide (HG3.out.kept HB3.out (by decide) hk4)
 clear hB4 hk4 hs4 HB3 HR3 HW3 HG3
 have k3:=HB4.out.c3
 have k4:=HB4.out.c4
 have k8:=HB4.out.c8
 have k9:=HB4.out.c9
 have k10:=HB4.out.c10
 have k12:=HB4.out.c12
 have k13:=HB4.out.c13
 have k14:=HB4.out.c14
 have k16:=HB4.out.c16
 go_upto_region 3 with (refine J6 HB4.out (SN.bA s) rfl _ _ rfl rfl rfl ?_;intro w5 hB5 hk5 hs5)
 have HR5:=hide (HR4.out.kept hk5 (by simp;exact hne))
 have HW5:=hide (HW4.out.trans (hk5.toBelow HW4.out.size (fun k hh=>by simp at hh;omega)))
 have HG5:=hide (HG4.out.kept HB4.out (by decide) hk5)
 have HB5:=hide hB5
 clear k3 k4 k8 k9 k10 k12 k13 k14 k16 HB4 HR4 HW4 HG4 hB5 hk5
 go_wp2_with (first | (refine AQ HB5.out rfl _ rfl rfl ?_) | (refine AJ HR5.out hsR rfl _ _ rfl rfl rfl rfl ?_;intro w8 hB8 hk8 hs8))
 refine bodyPost_ret (Bu rfl rfl hB8) rfl ⟨_,rfl,⟨_,by rw [<- HS.out],?_⟩,HW5.out.trans (hk8.toBelow HW5.out.size (fun k hh=>by simp at hh;omega))⟩
 rw [HGE.out]
 exact HG5.out.kept HR5.out (by decide) hk8
theorem SN.Uf {s:SN.Sc} (h:SN.Ac s):SN.Ac ((((s.uP s.sv.pen).uS s.sv.s0 s.sv.s1).u14 s.sv.sh).u16 s.sv.org) where
 g:=h.g
 row:=h.row
 col:=h.col
 bot:=h.bot
 top:=h.top
 pen:=h.sv.pen
 tabs:=h.tabs
 set:=h.sv.set
 pend:=h.pend
 sv:=h.sv
theorem Ot (s:SN.Sc) (v:Value) (w:World) (hs:SN.Ac s) (h:IsS w s v):Calls Tryz.prog 165 #[v] w (Am w (SN.Ko s)):=by
 obtain⟨x,rfl,hg⟩:=h
 obtain⟨A,cp,rfl⟩:=Ad hg
 have hgr:=hs.g.2.1
 have hgc:=hs.g.2.2.2.1
 have hR1:=hs.g.1
 have hK1:=hs.g.2.2.1
 have HG:=hide hg
 have hvr:=hs.sv.row
 have hvc:=hs.sv.col
 have AT:=hide (fun w' v' h=>(show Calls Tryz.prog 109 #[v',.int .i64 (s.sv.row:Nat),.int .i64 (s.sv.col:Nat)] w' (Am w' (SN.Ko s)) from Ei ((((s.uP s.sv.pen).uS s.sv.s0 s.sv.s1).u14 s.sv.sh).u16 s.sv.org) v' s.sv.row s.sv.col w' (SN.Uf hs) (by omega) (by omega) h))
 generalize SN.Ko s=U at AT⊢
 clear hg hs
 go_enter Tryz.func165,Tryz.ntmps165
 go_upto_region 1 with (first | (refine BG rfl _ rfl rfl ?_;intro g w1 hB hb1 hg1) | (refine BQ rfl rfl ?_;intro gR w2 csR hR hsR hb2 hgR))
 have HB2:=hide (hB.below hb2 hB.lt)
 have HW2:=hide (hb1.trans (hb2.mono hb1.size))
 have HR2:=hide hR
 have dB:=hb1.size
 have hne:gR≠g:=by have:=hB.lt;omega
 have Ag:w.heap.size<=gR:=by omega
 have k20:=HB2.out.c20
 have k21:=HB2.out.c21
 have k22:=HB2.out.c22
 have k23:=HB2.out.c23
 have k24:=HB2.out.c24
 have k25:=HB2.out.c25
 have k26:=HB2.out.c26
 have k27:=HB2.out.c27
 have k28:=HB2.out.c28
 clear hB hb1 hb2 hR
 go_upto_region 2 with fail
 have HV:=hide (Box.new w2 41 #[.int .i64 s.sv.row,.int .i64 s.sv.col,.int .i64 s.sv.pen.1,.int .i64 s.sv.pen.2.1,.int .i64 s.sv.pen.2.2,.int .u8 s.sv.s0,.int .u8 s.sv.s1,.int .i64 s.sv.sh,.bool s.sv.org])
 have HB3:=hide (HB2.out.alloc (.cells #[.int .i64 s.sv.row,.int .i64 s.sv.col,.int .i64 s.sv.pen.1,.int .i64 s.sv.pen.2.1,.int .i64 s.sv.pen.2.2,.int .u8 s.sv.s0,.int .u8 s.sv.s1,.int .i64 s.sv.sh,.bool s.sv.org] 41))
 have HR3:=hide (HR2.out.alloc (.cells #[.int .i64 s.sv.row,.int .i64 s.sv.col,.int .i64 s.sv.pen.1,.int .i64 s.sv.pen.2.1,.int .i64 s.sv.pen.2.2,.int .u8 s.sv.s0,.int .u8 s.sv.s1,.int .i64 s.sv.sh,.bool s.sv.org] 41))
 have HW3:=hide (HW2.out.alloc HW2.out.size (.cells #[.int .i64 s.sv.row,.int .i64 s.sv.col,.int .i64 s.sv.pen.1,.int .i64 s.sv.pen.2.1,.int .i64 s.sv.pen.2.2,.int .u8 s.sv.s0,.int .u8 s.sv.s1,.int .i64 s.sv.sh,.bool s.sv.org] 41))
 have hgv:g≠w2.heap.size:=by have:=HB2.out.lt;omega
 have hgv2:gR≠w2.heap.size:=by have:=HR2.out.lt;omega
 generalize w2.heap.size=gV at HV hgv hgv2⊢
 generalize w2.alloc (.cells #[.int .i64 s.sv.row,.int .i64 s.sv.col,.int .i64 s.sv.pen.1,.int .i64 s.sv.pen.2.1,.int .i64 s.sv.pen.2.2,.int .u8 s.sv.s0,.int .u8 s.sv.s1,.int .i64 s.sv.sh,.bool s.sv.org] 41)=w3 at HV HB3 HR3 HW3⊢
 clear k20 k21 k22 k23 k24 k25 k26 k27 k28 HB2 HR2 HW2
 have v2:w3.cell? ⟨gV,2,none⟩=some (.int .i64 s.sv.pen.1):=HV.out.cell 2
 have v3:w3.cell? ⟨gV,3,none⟩=some (.int .i64 s.sv.pen.2.1):=HV.out.cell 3
 have v4:w3.cell? ⟨gV,4,none⟩=some (.int .i64 s.sv.pen.2.2):=HV.out.cell 4
 have v5:w3.cell? ⟨gV,5,none⟩=some (.int .u8 s.sv.s0):=HV.out.cell 5
 have v6:w3.cell? ⟨gV,6,none⟩=some (.int .u8 s.sv.s1):=HV.out.cell 6
 have v7:w3.cell? ⟨gV,7,none⟩=some (.int .i64 s.sv.sh):=HV.out.cell 7
 have v8:w3.cell? ⟨gV,8,none⟩=some (.bool s.sv.org):=HV.out.cell 8
 have k8:=HB3.out.c8
 have k9:=HB3.out.c9
 have k10:=HB3.out.c10
 have k12:=HB3.out.c12
 have k13:=HB3.out.c13
 have k14:=HB3.out.c14
 have k16:=HB3.out.c16
 have z8:=HB3.out.fz 8
 have z9:=HB3.out.fz 9
 have z10:=HB3.out.fz 10
 have z12:=HB3.out.fz 12
 have z13:=HB3.out.fz 13
 have z14:=HB3.out.fz 14
 have z16:=HB3.out.fz 16
 go_region
 go_simp
 go_step
 have hk4:Kept [some g] w3 (((((((w3.setCell ⟨g,8,none⟩ (.int .i64 s.sv.pen.1)).setCell ⟨g,9,none⟩ (.int .i64 s.sv.pen.2.1)).setCell ⟨g,10,none⟩ (.int .i64 s.sv.pen.2.2)).setCell ⟨g,12,none⟩ (.int .u8 s.sv.s0)).setCell ⟨g,13,none⟩ (.int .u8 s.sv.s1)).setCell ⟨g,14,none⟩ (.int .i64 s.sv.sh)).setCell ⟨g,16,none⟩ (.bool s.sv.org)).drew:=((((((((Kept.refl [some g] w3).setCell (p:=⟨g,8,none⟩) (From.mem (by simp)) (.int .i64 s.sv.pen.1)).setCell (p:=⟨g,9,none⟩) (From.mem (by simp)) (.int .i64 s.sv.pen.2.1)).setCell (p:=⟨g,10,none⟩) (From.mem (by simp)) (.int .i64 s.sv.pen.2.2)).setCell (p:=⟨g,12,none⟩) (From.mem (by simp)) (.int .u8 s.sv.s0)).setCell (p:=⟨g,13,none⟩) (From.mem (by simp)) (.int .u8 s.sv.s1)).setCell (p:=⟨g,14,none⟩) (From.mem (by simp)) (.int .i64 s.sv.sh)).setCell (p:=⟨g,16,none⟩) (From.mem (by simp)) (.bool s.sv.org)).drew
 have HB4:=hide (show Ai (((((((w3.setCell ⟨g,8,none⟩ (.int .i64 s.sv.pen.1)).setCell ⟨g,9,none⟩ (.int .i64 s.sv.pen.2.1)).setCell ⟨g,10,none⟩ (.int .i64 s.sv.pen.2.2)).setCell ⟨g,12,none⟩ (.int .u8 s.sv.s0)).setCell ⟨g,13,none⟩ (.int .u8 s.sv.s1)).setCell ⟨g,14,none⟩ (.int .i64 s.sv.sh)).setCell ⟨g,16,none⟩ (.bool s.sv.org)).drew g (.slice A (s.g.rows*s.g.AB) cp) ((((s.uP s.sv.pen).uS s.sv.s0 s.sv.s1).u14 s.sv.sh).u16 s.sv.org) from Box.drew (((((((HB3.out.set8 _).set9 _).fU _).WQ _).WR _).WS _).Z9 _))
 generalize (((((((w3.setCell ⟨g,8,none⟩ (.int .i64 s.sv.pen.1)).setCell ⟨g,9,none⟩ (.int .i64 s.sv.pen.2.1)).setCell ⟨g,10,none⟩ (.int .i64 s.sv.pen.2.2)).setCell ⟨g,12,none⟩ (.int .u8 s.sv.s0)).setCell ⟨g,13,none⟩ (.int .u8 s.sv.s1)).setCell ⟨g,14,none⟩ (.int .i64 s.sv.sh)).setCell ⟨g,16,none⟩ (.bool s.sv.org)).drew=w4 at hk4 HB4⊢
 have HV4:=hide (HV.out.kept hk4 (by simp;exact fun e=>hgv e.symm))
 have HR4:=hide (HR3.out.kept hk4 (by simp;exact hne))
 have HG4:=hide ((HG.out.low HW3.out).kept HB3.out (by decide) hk4)
 have HW4:=hide (HW3.out.trans (hk4.toBelow HW3.out.size (fun k hk=>by simp at hk;omega)))
 clear k8 k9 k10 k12 k13 k14 k16 z8 z9 z10 z12 z13 z14 z16 v2 v3 v4 v5 v6 v7 v8 hk4 HV HB3 HR3 HW3
 have v0:w4.cell? ⟨gV,0,none⟩=some (.int .i64 (s.sv.row:Nat)):=HV4.out.cell 0
 have v1:w4.cell? ⟨gV,1,none⟩=some (.int .i64 (s.sv.col:Nat)):=HV4.out.cell 1
 go_wp2_with (refine AQ HB4.out rfl _ rfl rfl ?_)
 refine(AT.out _ _ ⟨_,rfl,HG4.out⟩).mono (Ak HR4 HW4 fun A7 c7 w7 HR7 HW7 HG7=>?_)
 clear v0 v1 HV4 HB4 HR4 HW4 HG4
 go_wp2_with (refine AJ HR7.out hsR rfl _ _ rfl rfl rfl rfl ?_;intro w8 hB8 hk8 hs8)
 exact BJ rfl rfl rfl hB8 HG7 HR7 HW7 hk8 Ag
theorem Ou (s:SN.Sc) (v:Value) (w:World) (hs:PG.BF s.g) (hrow:s.row<s.g.rows) (Bp:s.col<s.g.AB) (htop:s.top<=s.bot) (Ij:s.bot<s.g.rows) (hpen:PG.CX (SN.Au s)) (h:IsS w s v):Calls Tryz.prog 64 #[v] w (Am w (SN.DL s)):=by
 obtain⟨x,rfl,hg⟩:=h
 obtain⟨A,cp,rfl⟩:=Ad hg
 have hgr:=hs.2.1
 have hgc:=hs.2.2.2.1
 have hR1:=hs.1
 have hK1:=hs.2.2.1
 have HG:=hide hg
 by_cases he:s.row=s.bot
 ·have e1:((s.row:Int)!=(s.bot:Int))=false:=by simp;omega
  have FL:=hide (fun w'=>Hl s (.slice A (s.g.rows*s.g.AB) cp) w')
  have SI:PG.Cc s.g s.top s.bot 1 (SN.Au s)=PG.Al s.g s.top s.bot 1 (SN.Au s):=(if_pos ⟨by omega,by omega⟩).trans (by simp)
  have SC0:=fun (w':World) (hb:Below w.heap.size w w')=>dD (w:=w') hs (hg.low hb) s.top s.bot 1 (SN.Au s) (hpen) (by omega) (by omega) (by omega)
  rw [SI] at SC0
  have HS:=hide (show(s.uG (PG.Al s.g s.top s.bot 1 (SN.Au s))).u5 false=SN.DL s from(if_pos he).symm)
  have HGE:=hide (show(SN.DL s).g=PG.Al s.g s.top s.bot 1 (SN.Au s) by rw [<- HS.out];rfl)
  generalize PG.Al s.g s.top s.bot 1 (SN.Au s)=T at SC0 HS HGE
  have SCH:=hide SC0
  generalize SN.DL s=U at HS HGE⊢
  clear SC0 SI he hg hs
  go_enter Tryz.func64,Tryz.ntmps64
  go_upto_region 1 with (refine BK HG _ rfl rfl rfl rfl rfl ?_;intro g gR w2 csR hsR HB2 HW2 HR2 HG2 hne hg1 Ag)
  clear HG
  have HB3:=HB2
  have HR3:=HR2
  have HW3:=HW2
  have k3:w2.cell? ⟨g,3,none⟩=some (.int .i64 (s.row:Nat)):=HB3.out.c3
  have k7:w2.cell? ⟨g,7,none⟩=some (.int .i64 (s.bot:Nat)):=HB3.out.c7
  have SC:=hide (fun w' (hb:Below w2.heap.size w2 w')=>(show Calls Tryz.prog 110 #[.agg #[.int .i64 s.g.rows,.int .i64 s.g.AB,.slice A (s.g.rows*s.g.AB) cp],.int .i64 s.top,.int .i64 s.bot,.int .i64 1,.agg #[.int .i64 (-1),.int .i64 s.pen.2.1,.int .i64 0]] w' (Cy w' T) from SCH.out w' (HW3.out.trans (hb.mono HW3.out.size))))
  clear SCH HB2 HR2 HW2 HG2
  go_upto_region 3 with fail
  go_cut [] from 15 to 24 (fun wx=> ∃A4 c4,Ai wx g (.slice A4 (T.rows*T.AB) c4) (s.uG T)/\Below w.heap.size w wx/\Box wx gR 43 csR/\IsG wx T (gv T.rows T.AB (.slice A4 (T.rows*T.AB) c4)))
  case first=>
   refine BS (n:=27) 10 [] (fun _=> #[]) [(0,0,0,0,0),(0,0,0,0,0),(0,0,0,0,0),(0,0,0,0,0),(0,0,0,0,0),(0,0,0,0,0),(0,0,0,0,0),(0,0,0,0,0),(1,0,0,0,0),(0,0,0,0,0),(0,0,0,0,0)] (fun j=> [(.pointer (some ⟨g,0,none⟩)),(.agg #[.int .i64 (s.g.rows:Nat),.int .i64 (s.g.AB:Nat),.slice A (s.g.rows*s.g.AB) cp]),(.pointer (some ⟨g,6,none⟩)),(.int .i64 (s.top:Nat)),(.pointer (some ⟨g,7,none⟩)),(.int .i64 (s.bot:Nat)),(.agg (scA (.slice A (s.g.rows*s.g.AB) cp) s)),(.agg #[.int .i64 (-1),.int .i64 s.pen.2.1,.int .i64 0]),undef,(.pointer (some ⟨g,0,none⟩)),undef].getD j undef) [none,none,none,none,none,none,none,none,some (Dn T)] (fun _=>0) (by kernel_rfl) (by kernel_rfl) (by kernel_rfl) rfl (by kernel_rfl) (by kernel_rfl) (Dm rfl) (fun i j h=>by revert h;exact Dm (p:=fun _=>_) rfl i) (Ah.none_ (Ah.none_ (Ah.none_ (Ah.none_ (Ah.none_ (Ah.none_ (Ah.none_ (Ah.none_ (Ah.some_ (Dn.stays (by kernel_rfl)) (Ah.nil _)))))))))) (fun hGS=>KA ⟨?_,?_,?_,?_,?_,?_,?_,?_,?_,?_⟩) ?_
   ·intro L a w' hL hsame hsz hJ AV hcl
    refine BH hJ hGS hcl hL 1 (.pointer (some ⟨g,0,none⟩)) (.pointer (some ⟨g,0,none⟩)) (AZ hsame (by kernel_rfl)) _ rfl rfl rfl rfl rfl fun ρ _ e0=>?_
    clear hJ hsame AV hcl hsz
    go_simp
   ·intro L a w' hL hsame hsz hJ AV hcl
    have hx:=hJ.Aj (HB3.out) (by simp)
    have q0:w'.cell? ⟨g,0,none⟩=some (.int .i64 (s.g.rows:Nat)):=hx.cell 0
    have q1:w'.cell? ⟨g,1,none⟩=some (.int .i64 (s.g.AB:Nat)):=hx.cell 1
    have q2:w'.cell? ⟨g,2,none⟩=some (.slice A (s.g.rows*s.g.AB) cp):=hx.cell 2
    refine BH hJ hGS hcl hL 15 (.pointer (some ⟨g,0,none⟩)) (.agg #[.int .i64 (s.g.rows:Nat),.int .i64 (s.g.AB:Nat),.slice A (s.g.rows*s.g.AB) cp]) (gslot hJ AV 0 (by kernel_rfl) (by kernel_rfl) (by decide) rfl rfl) _ rfl rfl rfl rfl rfl fun ρ _ e0=>?_
    clear hJ hsame AV hcl hsz hx
    go_simp
   ·intro L a w' hL hsame hsz hJ AV hcl
    refine BH hJ hGS hcl hL 1 (.pointer (some ⟨g,0,none⟩)) (.pointer (some ⟨g,6,none⟩)) (AZ hsame (by kernel_rfl)) _ rfl rfl rfl rfl rfl fun ρ _ e0=>?_
    clear hJ hsame AV hcl hsz
    go_simp
   ·intro L a w' hL hsame hsz hJ AV hcl
    have q0:w'.cell? ⟨g,6,none⟩=some (.int .i64 (s.top:Nat)):=(hJ.Aj (HB3.out) (by simp)).cell 6
    refine BH hJ hGS hcl hL 17 (.pointer (some ⟨g,6,none⟩)) (.int .i64 (s.top:Nat)) (gslot hJ AV 2 (by kernel_rfl) (by kernel_rfl) (by decide) rfl rfl) _ rfl rfl rfl rfl rfl fun ρ _ e0=>?_
    clear hJ hsame AV hcl hsz
    go_simp
   ·intro L a w' hL hsame hsz hJ AV hcl
    refine BH hJ hGS hcl hL 1 (.pointer (some ⟨g,0,none⟩)) (.pointer (some ⟨g,7,none⟩)) (AZ hsame (by kernel_rfl)) _ rfl rfl rfl rfl rfl fun ρ _ e0=>?_
    clear hJ hsame AV hcl hsz
    go_simp
   ·intro L a w' hL hsame hsz hJ AV hcl
    have q0:w'.cell? ⟨g,7,none⟩=some (.int .i64 (s.bot:Nat)):=(hJ.Aj (HB3.out) (by simp)).cell 7
    refine BH hJ hGS hcl hL 19 (.pointer (some ⟨g,7,none⟩)) (.int .i64 (s.bot:Nat)) (gslot hJ AV 4 (by kernel_rfl) (by kernel_rfl) (by decide) rfl rfl) _ rfl rfl rfl rfl rfl fun ρ _ e0=>?_
    clear hJ hsame AV hcl hsz
    go_simp
   ·intro L a w' hL hsame hsz hJ AV hcl
    have hb:=hJ.kept.toBelow (Nat.le_refl _) (by simp)
    have e0:a.eval (.tmp 1)=(.pointer (some ⟨g,0,none⟩)):=AZ hsame (by kernel_rfl)
    have hx:=hJ.Aj (HB3.out) (by simp)
    exact Step.val _ rfl rfl (AX rfl) (.agg (scA (.slice A (s.g.rows*s.g.AB) cp) s)) w' (fun ρ hρ=>BM hx rfl ρ _ rfl ((hρ _).symm.trans e0)) (hJ.val hGS hcl hL rfl (Below.refl _ _) _ rfl)
   ·intro L a w' hL hsame hsz hJ AV hcl
    have hb:=hJ.kept.toBelow (Nat.le_refl _) (by simp)
    have e0:a.eval (.tmp 21)=(.agg (scA (.slice A (s.g.rows*s.g.AB) cp) s)):=AY (j:=6) (by kernel_rfl) (hJ.valOf (by decide) (Ab AV 6 (by kernel_rfl)) rfl rfl)
    refine Step.call _ rfl rfl (AX rfl) 111 #[.agg (scA (.slice A (s.g.rows*s.g.AB) cp) s)] (fun ρ hρ=>?_) ?_
    ·skip
     rw [hρ] at e0
     have ef:ρ (.func 111)=.func (.func 111) #[] #[] :=(hρ _).symm
     clear hJ hsame AV hcl hρ hsz hb
     go_simp
    ·refine(FL.out _).mono ?_
     rintro e w2 ⟨rfl,bb⟩
     exact⟨_,rfl,hJ.val hGS hcl hL rfl bb _ rfl⟩
   ·intro L a w' hL hsame hsz hJ AV hcl
    have hb:=hJ.kept.toBelow (Nat.le_refl _) (by simp)
    have e0:a.eval (.tmp 16)=(.agg #[.int .i64 (s.g.rows:Nat),.int .i64 (s.g.AB:Nat),.slice A (s.g.rows*s.g.AB) cp]):=AY (j:=1) (by kernel_rfl) (hJ.valOf (by decide) (Ab AV 1 (by kernel_rfl)) rfl rfl)
    have e1:a.eval (.tmp 18)=(.int .i64 (s.top:Nat)):=AY (j:=3) (by kernel_rfl) (hJ.valOf (by decide) (Ab AV 3 (by kernel_rfl)) rfl rfl)
    have e2:a.eval (.tmp 20)=(.int .i64 (s.bot:Nat)):=AY (j:=5) (by kernel_rfl) (hJ.valOf (by decide) (Ab AV 5 (by kernel_rfl)) rfl rfl)
    have e4:a.eval (.tmp 22)=(.agg #[.int .i64 (-1),.int .i64 s.pen.2.1,.int .i64 0]):=AY (j:=7) (by kernel_rfl) (hJ.valOf (by decide) (Ab AV 7 (by kernel_rfl)) rfl rfl)
    refine Step.call _ rfl rfl (AX rfl) 110 #[.agg #[.int .i64 (s.g.rows:Nat),.int .i64 (s.g.AB:Nat),.slice A (s.g.rows*s.g.AB) cp],.int .i64 (s.top:Nat),.int .i64 (s.bot:Nat),.int .i64 1,.agg #[.int .i64 (-1),.int .i64 s.pen.2.1,.int .i64 0]] (fun ρ hρ=>?_) ?_
    ·skip
     rw [hρ] at e0 e1 e2 e4
     have ec0:ρ (.const (.int .i64 1))=(.int .i64 1):=(hρ _).symm
     have ef:ρ (.func 110)=.func (.func 110) #[] #[] :=(hρ _).symm
     clear hJ hsame AV hcl hρ hsz hb
     go_simp
    ·refine(SC.out _ hb).mono ?_
     rintro e w2 ⟨v,rfl,⟨y,rfl,ho⟩,bb⟩
     obtain⟨A8,c8,rfl⟩:=Ad (G:=T) ⟨_,rfl,ho⟩
     exact⟨_,rfl,hJ.pred hGS hcl hL rfl bb _ ⟨A8,c8,rfl,ho⟩⟩
   ·intro L a w' hL hsame hsz hJ AV hcl
    refine BH hJ hGS hcl hL 1 (.pointer (some ⟨g,0,none⟩)) (.pointer (some ⟨g,0,none⟩)) (AZ hsame (by kernel_rfl)) _ rfl rfl rfl rfl rfl fun ρ _ e0=>?_
    clear hJ hsame AV hcl hsz
    go_simp
   ·intro L u w' hF hall
    change wpList _ _ _ _ (Act.put (Act.put (Act.put (Act.put (Act.put (Act.put (Act.put (Act.put (Act.put (Act.put (Act.put (Aw _ u 0 _) (some 15) (u 0)) (some 16) (u 1)) (some 17) (u 2)) (some 18) (u 3)) (some 19) (u 4)) (some 20) (u 5)) (some 21) (u 6)) (some 22) (u 7)) (some 23) (u 8)) (some 24) (u 9)) none (u 10)) _
    simp only [Aw]
    obtain⟨A4,c4,f8,ho4⟩:=(show Dn T (u 8) w' from hF.Ct (j:=8) (by decide) (hall 8 (by decide)) rfl)
    have f9:u 9=.pointer (some ⟨g,0,none⟩):=hF.valOf (j:=9) (by decide) (hall 9 (by decide)) rfl rfl
    have hk:=hF.kept.toBelow (Nat.le_refl _) (by simp)
    clear hF
    generalize u 0=z0
    generalize u 1=z1
    generalize u 2=z2
    generalize u 3=z3
    generalize u 4=z4
    generalize u 5=z5
    generalize u 6=z6
    generalize u 7=z7
    generalize u 8=z8 at f8⊢
    generalize u 9=z9 at f9⊢
    generalize u 10=z10
    subst f8 f9
    simp only [List.drop_succ_cons,List.drop_zero]
    refine Bw (y:=.slice A4 (T.rows*T.AB) c4) (G:=T) (HB3.out.below hk HB3.out.lt) rfl _ _ rfl (by go_simp) (by go_simp;rfl) rfl ?_
    intro w8 hB8 hk8 hs8
    change Exit.then _ _ Exit.normal _ _
    go_simp
    go_step
    go_meet
    have hw:=HW3.out.trans (hk.mono HW3.out.size)
    exact⟨A4,c4,hB8,hw.trans (hk8.toBelow hw.size (fun k hh=>by simp at hh;omega)),(HR3.out.below hk HR3.out.lt).kept hk8 (by simp;exact hne),IsG.kept (G:=T) ⟨_,rfl,ho4⟩ (HB3.out.below hk HB3.out.lt) (by decide) hk8⟩
  case rest=>
   obtain⟨A4,c4,hB4,hW4,hR4,hG4⟩:=hcut
   rename World=>w5
   have k5:=hB4.c5
   have z5:=hB4.fz 5
   go_upto_region 5 with fail
   have HB6:=hide (hB4.JZ false)
   have HR6:=hide (hR4.far (p:=⟨g,5,none⟩) hne (.bool false))
   have HW6:=hide (hW4.setCell (p:=⟨g,5,none⟩) hg1 (.bool false))
   have HG6:=hide (IsG.puts hG4 hB4 5 (.bool false))
   generalize (w5.setCell ⟨g,5,none⟩ (.bool false))=w6 at HB6 HR6 HW6 HG6⊢
   clear k5 z5 hB4 hR4 hW4 hG4
   go_wp2_with (first | (refine AQ HB6.out rfl _ rfl rfl ?_) | (refine AJ HR6.out hsR rfl _ _ rfl rfl rfl rfl ?_;intro w8 hB8 hk8 hs8))
   refine bodyPost_ret (Bu rfl rfl hB8) rfl ⟨_,rfl,⟨_,by rw [<- HS.out],?_⟩,HW6.out.trans (hk8.toBelow HW6.out.size (fun k hh=>by simp at hh;omega))⟩
   rw [HGE.out]
   exact HG6.out.kept HR6.out (by decide) hk8
 ·have e1:((s.row:Int)!=(s.bot:Int))=true:=by simp;omega
  have AT:=hide (fun w' v' h=>(Xd s v' ((s.row:Int)+1) s.col w' hs (by omega) (by omega) h))
  rw [show SN.atS s ((s.row:Int)+1) s.col=SN.DL s from(if_neg he).symm] at AT
  generalize SN.DL s=U at AT⊢
  clear he hg hs
  go_enter Tryz.func64,Tryz.ntmps64
  go_upto_region 1 with (refine BK HG _ rfl rfl rfl rfl rfl ?_;intro g gR w2 csR hsR HB2 HW2 HR2 HG2 hne hg1 Ag)
  clear HG
  have k3:w2.cell? ⟨g,3,none⟩=some (.int .i64 (s.row:Nat)):=HB2.out.c3
  have k4:w2.cell? ⟨g,4,none⟩=some (.int .i64 (s.col:Nat)):=HB2.out.c4
  have k7:w2.cell? ⟨g,7,none⟩=some (.int .i64 (s.bot:Nat)):=HB2.out.c7
  go_wp2_with (refine AQ HB2.out rfl _ rfl rfl ?_)
  refine(AT.out _ _ ⟨_,rfl,HG2.out⟩).mono (Ak HR2 HW2 fun A7 c7 w7 HR7 HW7 HG7=>?_)
  clear HB2 HR2 HW2 HG2
  go_wp2_with (refine AJ HR7.out hsR rfl _ _ rfl rfl rfl rfl ?_;intro w8 hB8 hk8 hs8)
  exact BJ rfl rfl rfl hB8 HG7 HR7 HW7 hk8 Ag
theorem Ho (s:SN.Sc) (v:Value) (w:World) (hs:SN.Ac s) (h:IsS w s v):Calls Tryz.prog 64 #[v] w (Am w (SN.DL s)):=Ou s v w hs.g hs.row hs.col (SN.Cn hs) hs.bot (SN.Bj hs) h
theorem Xf (s:SN.Sc) (v:Value) (w:World) (hs:SN.Ac s) (h:IsS w s v):Calls Tryz.prog 166 #[v] w (Am w (SN.JE s)):=by
 obtain⟨x,rfl,hg⟩:=h
 obtain⟨A,cp,rfl⟩:=Ad hg
 have hgr:=hs.g.2.1
 have hgc:=hs.g.2.2.2.1
 have hR1:=hs.g.1
 have hK1:=hs.g.2.2.1
 have HG:=hide hg
 have hrow:=hs.row
 have Bp:=hs.col
 have htop:=SN.Cn hs
 have Ij:=hs.bot
 by_cases he:s.row=s.top
 ·have e1:((s.row:Int)!=(s.top:Int))=false:=by simp;omega
  have FL:=hide (fun w'=>Hl s (.slice A (s.g.rows*s.g.AB) cp) w')
  have SI:PG.Cc s.g s.top s.bot (-1) (SN.Au s)=PG.Al s.g s.top s.bot (-1) (SN.Au s):=(if_pos ⟨by omega,by omega⟩).trans (by simp)
  have SC0:=fun (w':World) (hb:Below w.heap.size w w')=>Qt (w:=w') hs.g (hg.low hb) s.top s.bot 1 (SN.Au s) (SN.Bj hs) (by omega) (by omega) (by omega)
  rw [SI] at SC0
  have HS:=hide (show(s.uG (PG.Al s.g s.top s.bot (-1) (SN.Au s))).u5 false=SN.JE s from(if_pos he).symm)
  have HGE:=hide (show(SN.JE s).g=PG.Al s.g s.top s.bot (-1) (SN.Au s) by rw [<- HS.out];rfl)
  generalize PG.Al s.g s.top s.bot (-1) (SN.Au s)=T at SC0 HS HGE
  have SCH:=hide SC0
  generalize SN.JE s=U at HS HGE⊢
  clear SC0 SI he hg hs
  go_enter Tryz.func166,Tryz.ntmps166
  go_upto_region 1 with (refine BK HG _ rfl rfl rfl rfl rfl ?_;intro g gR w2 csR hsR HB2 HW2 HR2 HG2 hne hg1 Ag)
  clear HG
  have HB3:=HB2
  have HR3:=HR2
  have HW3:=HW2
  have k3:w2.cell? ⟨g,3,none⟩=some (.int .i64 (s.row:Nat)):=HB3.out.c3
  have k6:w2.cell? ⟨g,6,none⟩=some (.int .i64 (s.top:Nat)):=HB3.out.c6
  have SC:=hide (fun w' (hb:Below w2.heap.size w2 w')=>(show Calls Tryz.prog 190 #[.agg #[.int .i64 s.g.rows,.int .i64 s.g.AB,.slice A (s.g.rows*s.g.AB) cp],.int .i64 s.top,.int .i64 s.bot,.int .i64 1,.agg #[.int .i64 (-1),.int .i64 s.pen.2.1,.int .i64 0]] w' (Cy w' T) from SCH.out w' (HW3.out.trans (hb.mono HW3.out.size))))
  clear SCH HB2 HR2 HW2 HG2
  go_upto_region 3 with fail
  go_cut [] from 15 to 24 (fun wx=> ∃A4 c4,Ai wx g (.slice A4 (T.rows*T.AB) c4) (s.uG T)/\Below w.heap.size w wx/\Box wx gR 43 csR/\IsG wx T (gv T.rows T.AB (.slice A4 (T.rows*T.AB) c4)))
  case first=>
   refine BS (n:=27) 10 [] (fun _=> #[]) [(0,0,0,0,0),(0,0,0,0,0),(0,0,0,0,0),(0,0,0,0,0),(0,0,0,0,0),(0,0,0,0,0),(0,0,0,0,0),(0,0,0,0,0),(1,0,0,0,0),(0,0,0,0,0),(0,0,0,0,0)] (fun j=> [(.pointer (some ⟨g,0,none⟩)),(.agg #[.int .i64 (s.g.rows:Nat),.int .i64 (s.g.AB:Nat),.slice A (s.g.rows*s.g.AB) cp]),(.pointer (some ⟨g,6,none⟩)),(.int .i64 (s.top:Nat)),(.pointer (some ⟨g,7,none⟩)),(.int .i64 (s.bot:Nat)),(.agg (scA (.slice A (s.g.rows*s.g.AB) cp) s)),(.agg #[.int .i64 (-1),.int .i64 s.pen.2.1,.int .i64 0]),undef,(.pointer (some ⟨g,0,none⟩)),undef].getD j undef) [none,none,none,none,none,none,none,none,some (Dn T)] (fun _=>0) (by kernel_rfl) (by kernel_rfl) (by kernel_rfl) rfl (by kernel_rfl) (by kernel_rfl) (Dm rfl) (fun i j h=>by revert h;exact Dm (p:=fun _=>_) rfl i) (Ah.none_ (Ah.none_ (Ah.none_ (Ah.none_ (Ah.none_ (Ah.none_ (Ah.none_ (Ah.none_ (Ah.some_ (Dn.stays (by kernel_rfl)) (Ah.nil _)))))))))) (fun hGS=>KA ⟨?_,?_,?_,?_,?_,?_,?_,?_,?_,?_⟩) ?_
   ·intro L a w' hL hsame hsz hJ AV hcl
    refine BH hJ hGS hcl hL 1 (.pointer (some ⟨g,0,none⟩)) (.pointer (some ⟨g,0,none⟩)) (AZ hsame (by kernel_rfl)) _ rfl rfl rfl rfl rfl fun ρ _ e0=>?_
    clear hJ hsame AV hcl hsz
    go_simp
   ·intro L a w' hL hsame hsz hJ AV hcl
    have hx:=hJ.Aj (HB3.out) (by simp)
    have q0:w'.cell? ⟨g,0,none⟩=some (.int .i64 (s.g.rows:Nat)):=hx.cell 0
    have q1:w'.cell? ⟨g,1,none⟩=some (.int .i64 (s.g.AB:Nat)):=hx.cell 1
    have q2:w'.cell? ⟨g,2,none⟩=some (.slice A (s.g.rows*s.g.AB) cp):=hx.cell 2
    refine BH hJ hGS hcl hL 15 (.pointer (some ⟨g,0,none⟩)) (.agg #[.int .i64 (s.g.rows:Nat),.int .i64 (s.g.AB:Nat),.slice A (s.g.rows*s.g.AB) cp]) (gslot hJ AV 0 (by kernel_rfl) (by kernel_rfl) (by decide) rfl rfl) _ rfl rfl rfl rfl rfl fun ρ _ e0=>?_
    clear hJ hsame AV hcl hsz hx
    go_simp
   ·intro L a w' hL hsame hsz hJ AV hcl
    refine BH hJ hGS hcl hL 1 (.pointer (some ⟨g,0,none⟩)) (.pointer (some ⟨g,6,none⟩)) (AZ hsame (by kernel_rfl)) _ rfl rfl rfl rfl rfl fun ρ _ e0=>?_
    clear hJ hsame AV hcl hsz
    go_simp
   ·intro L a w' hL hsame hsz hJ AV hcl
    have q0:w'.cell? ⟨g,6,none⟩=some (.int .i64 (s.top:Nat)):=(hJ.Aj (HB3.out) (by simp)).cell 6
    refine BH hJ hGS hcl hL 17 (.pointer (some ⟨g,6,none⟩)) (.int .i64 (s.top:Nat)) (gslot hJ AV 2 (by kernel_rfl) (by kernel_rfl) (by decide) rfl rfl) _ rfl rfl rfl rfl rfl fun ρ _ e0=>?_
    clear hJ hsame AV hcl hsz
    go_simp
   ·intro L a w' hL hsame hsz hJ AV hcl
    refine BH hJ hGS hcl hL 1 (.pointer (some ⟨g,0,none⟩)) (.pointer (some ⟨g,7,none⟩)) (AZ hsame (by kernel_rfl)) _ rfl rfl rfl rfl rfl fun ρ _ e0=>?_
    clear hJ hsame AV hcl hsz
    go_simp
   ·intro L a w' hL hsame hsz hJ AV hcl
    have q0:w'.cell? ⟨g,7,none⟩=some (.int .i64 (s.bot:Nat)):=(hJ.Aj (HB3.out) (by simp)).cell 7
    refine BH hJ hGS hcl hL 19 (.pointer (some ⟨g,7,none⟩)) (.int .i64 (s.bot:Nat)) (gslot hJ AV 4 (by kernel_rfl) (by kernel_rfl) (by decide) rfl rfl) _ rfl rfl rfl rfl rfl fun ρ _ e0=>?_
    clear hJ hsame AV hcl hsz
    go_simp
   ·intro L a w' hL hsame hsz hJ AV hcl
    have hb:=hJ.kept.toBelow (Nat.le_refl _) (by simp)
    have e0:a.eval (.tmp 1)=(.pointer (some ⟨g,0,none⟩)):=AZ hsame (by kernel_rfl)
    have hx:=hJ.Aj (HB3.out) (by simp)
    exact Step.val _ rfl rfl (AX rfl) (.agg (scA (.slice A (s.g.rows*s.g.AB) cp) s)) w' (fun ρ hρ=>BM hx rfl ρ _ rfl ((hρ _).symm.trans e0)) (hJ.val hGS hcl hL rfl (Below.refl _ _) _ rfl)
   ·intro L a w' hL hsame hsz hJ AV hcl
    have hb:=hJ.kept.toBelow (Nat.le_refl _) (by simp)
    have e0:a.eval (.tmp 21)=(.agg (scA (.slice A (s.g.rows*s.g.AB) cp) s)):=AY (j:=6) (by kernel_rfl) (hJ.valOf (by decide) (Ab AV 6 (by kernel_rfl)) rfl rfl)
    refine Step.call _ rfl rfl (AX rfl) 111 #[.agg (scA (.slice A (s.g.rows*s.g.AB) cp) s)] (fun ρ hρ=>?_) ?_
    ·skip
     rw [hρ] at e0
     have ef:ρ (.func 111)=.func (.func 111) #[] #[] :=(hρ _).symm
     clear hJ hsame AV hcl hρ hsz hb
     go_simp
    ·refine(FL.out _).mono ?_
     rintro e w2 ⟨rfl,bb⟩
     exact⟨_,rfl,hJ.val hGS hcl hL rfl bb _ rfl⟩
   ·intro L a w' hL hsame hsz hJ AV hcl
    have hb:=hJ.kept.toBelow (Nat.le_refl _) (by simp)
    have e0:a.eval (.tmp 16)=(.agg #[.int .i64 (s.g.rows:Nat),.int .i64 (s.g.AB:Nat),.slice A (s.g.rows*s.g.AB) cp]):=AY (j:=1) (by kernel_rfl) (hJ.valOf (by decide) (Ab AV 1 (by kernel_rfl)) rfl rfl)
    have e1:a.eval (.tmp 18)=(.int .i64 (s.top:Nat)):=AY (j:=3) (by kernel_rfl) (hJ.valOf (by decide) (Ab AV 3 (by kernel_rfl)) rfl rfl)
    have e2:a.eval (.tmp 20)=(.int .i64 (s.bot:Nat)):=AY (j:=5) (by kernel_rfl) (hJ.valOf (by decide) (Ab AV 5 (by kernel_rfl)) rfl rfl)
    have e4:a.eval (.tmp 22)=(.agg #[.int .i64 (-1),.int .i64 s.pen.2.1,.int .i64 0]):=AY (j:=7) (by kernel_rfl) (hJ.valOf (by decide) (Ab AV 7 (by kernel_rfl)) rfl rfl)
    refine Step.call _ rfl rfl (AX rfl) 190 #[.agg #[.int .i64 (s.g.rows:Nat),.int .i64 (s.g.AB:Nat),.slice A (s.g.rows*s.g.AB) cp],.int .i64 (s.top:Nat),.int .i64 (s.bot:Nat),.int .i64 1,.agg #[.int .i64 (-1),.int .i64 s.pen.2.1,.int .i64 0]] (fun ρ hρ=>?_) ?_
    ·skip
     rw [hρ] at e0 e1 e2 e4
     have ec0:ρ (.const (.int .i64 1))=(.int .i64 1):=(hρ _).symm
     have ef:ρ (.func 190)=.func (.func 190) #[] #[] :=(hρ _).symm
     clear hJ hsame AV hcl hρ hsz hb
     go_simp
    ·refine(SC.out _ hb).mono ?_
     rintro e w2 ⟨v,rfl,⟨y,rfl,ho⟩,bb⟩
     obtain⟨A8,c8,rfl⟩:=Ad (G:=T) ⟨_,rfl,ho⟩
     exact⟨_,rfl,hJ.pred hGS hcl hL rfl bb _ ⟨A8,c8,rfl,ho⟩⟩
   ·intro L a w' hL hsame hsz hJ AV hcl
    refine BH hJ hGS hcl hL 1 (.pointer (some ⟨g,0,none⟩)) (.pointer (some ⟨g,0,none⟩)) (AZ hsame (by kernel_rfl)) _ rfl rfl rfl rfl rfl fun ρ _ e0=>?_
    clear hJ hsame AV hcl hsz
    go_simp
   ·intro L u w' hF hall
    change wpList _ _ _ _ (Act.put (Act.put (Act.put (Act.put (Act.put (Act.put (Act.put (Act.put (Act.put (Act.put (Act.put (Aw _ u 0 _) (some 15) (u 0)) (some 16) (u 1)) (some 17) (u 2)) (some 18) (u 3)) (some 19) (u 4)) (some 20) (u 5)) (some 21) (u 6)) (some 22) (u 7)) (some 23) (u 8)) (some 24) (u 9)) none (u 10)) _
    simp only [Aw]
    obtain⟨A4,c4,f8,ho4⟩:=(show Dn T (u 8) w' from hF.Ct (j:=8) (by decide) (hall 8 (by decide)) rfl)
    have f9:u 9=.pointer (some ⟨g,0,none⟩):=hF.valOf (j:=9) (by decide) (hall 9 (by decide)) rfl rfl
    have hk:=hF.kept.toBelow (Nat.le_refl _) (by simp)
    clear hF
    generalize u 0=z0
    generalize u 1=z1
    generalize u 2=z2
    generalize u 3=z3
    generalize u 4=z4
    generalize u 5=z5
    generalize u 6=z6
    generalize u 7=z7
    generalize u 8=z8 at f8⊢
    generalize u 9=z9 at f9⊢
    generalize u 10=z10
    subst f8 f9
    simp only [List.drop_succ_cons,List.drop_zero]
    refine Bw (y:=.slice A4 (T.rows*T.AB) c4) (G:=T) (HB3.out.below hk HB3.out.lt) rfl _ _ rfl (by go_simp) (by go_simp;rfl) rfl ?_
    intro w8 hB8 hk8 hs8
    change Exit.then _ _ Exit.normal _ _
    go_simp
    go_step
    go_meet
    have hw:=HW3.out.trans (hk.mono HW3.out.size)
    exact⟨A4,c4,hB8,hw.trans (hk8.toBelow hw.size (fun k hh=>by simp at hh;omega)),(HR3.out.below hk HR3.out.lt).kept hk8 (by simp;exact hne),IsG.kept (G:=T) ⟨_,rfl,ho4⟩ (HB3.out.below hk HB3.out.lt) (by decide) hk8⟩
  case rest=>
   obtain⟨A4,c4,hB4,hW4,hR4,hG4⟩:=hcut
   rename World=>w5
   have k5:=hB4.c5
   have z5:=hB4.fz 5
   go_upto_region 5 with fail
   have HB6:=hide (hB4.JZ false)
   have HR6:=hide (hR4.far (p:=⟨g,5,none⟩) hne (.bool false))
   have HW6:=hide (hW4.setCell (p:=⟨g,5,none⟩) hg1 (.bool false))
   have HG6:=hide (IsG.puts hG4 hB4 5 (.bool false))
   generalize (w5.setCell ⟨g,5,none⟩ (.bool false))=w6 at HB6 HR6 HW6 HG6⊢
   clear k5 z5 hB4 hR4 hW4 hG4
   go_wp2_with (first | (refine AQ HB6.out rfl _ rfl rfl ?_) | (refine AJ HR6.out hsR rfl _ _ rfl rfl rfl rfl ?_;intro w8 hB8 hk8 hs8))
   refine bodyPost_ret (Bu rfl rfl hB8) rfl ⟨_,rfl,⟨_,by rw [<- HS.out],?_⟩,HW6.out.trans (hk8.toBelow HW6.out.size (fun k hh=>by simp at hh;omega))⟩
   rw [HGE.out]
   exact HG6.out.kept HR6.out (by decide) hk8
 ·have e1:((s.row:Int)!=(s.top:Int))=true:=by simp;omega
  have AT:=hide (fun w' v' h=>(Ei s v' ((s.row:Int)-1) s.col w' hs (by omega) (by omega) h))
  rw [show SN.atS s ((s.row:Int)-1) s.col=SN.JE s from(if_neg he).symm] at AT
  generalize SN.JE s=U at AT⊢
  clear he hg hs
  go_enter Tryz.func166,Tryz.ntmps166
  go_upto_region 1 with (refine BK HG _ rfl rfl rfl rfl rfl ?_;intro g gR w2 csR hsR HB2 HW2 HR2 HG2 hne hg1 Ag)
  clear HG
  have k3:w2.cell? ⟨g,3,none⟩=some (.int .i64 (s.row:Nat)):=HB2.out.c3
  have k4:w2.cell? ⟨g,4,none⟩=some (.int .i64 (s.col:Nat)):=HB2.out.c4
  have k6:w2.cell? ⟨g,6,none⟩=some (.int .i64 (s.top:Nat)):=HB2.out.c6
  go_wp2_with (refine AQ HB2.out rfl _ rfl rfl ?_)
  refine(AT.out _ _ ⟨_,rfl,HG2.out⟩).mono (Ak HR2 HW2 fun A7 c7 w7 HR7 HW7 HG7=>?_)
  clear HB2 HR2 HW2 HG2
  go_wp2_with (refine AJ HR7.out hsR rfl _ _ rfl rfl rfl rfl ?_;intro w8 hB8 hk8 hs8)
  exact BJ rfl rfl rfl hB8 HG7 HR7 HW7 hk8 Ag
end Go.Proofs.YtoaabebgmdbjeaaGreatDoor
