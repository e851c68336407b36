/- Which screens look the same, which are the same: the landed Looks, Same, of any numbers. (written by tools/genscreensame.py) -/
import Derived.Test.YtoaabebgmdbjeaaGreatDoorQb16
set_option maxRecDepth 100000
set_option maxHeartbeats 16000000
set_option linter.unusedVariables false
namespace Go.Proofs.YtoaabebgmdbjeaaGreatDoor
open Go.RowKit
namespace SN
def bY (p q:Rw):Bool:=p.row==q.row&&p.col==q.col&&(p.pen.1==q.pen.1&&p.pen.2.1==q.pen.2.1&&p.pen.2.2==q.pen.2.2)&&(p.s0==q.s0&&p.s1==q.s1)&&p.sh==q.sh&&p.org==q.org
def bf (p q:Rw):Bool:=p.FR==q.FR&&p.FU==q.FU&&(p.Bn.1==q.Bn.1&&p.Bn.2.1==q.Bn.2.1&&p.Bn.2.2==q.Bn.2.2)&&(p.t0==q.t0&&p.t1==q.t1)&&p.th==q.th&&p.so==q.so
theorem Va (a b:PG.Pn):decide (a=b)=(a.1==b.1&&a.2.1==b.2.1&&a.2.2==b.2.2):=by
 obtain⟨a1,a2,a3⟩:=a
 obtain⟨b1,b2,b3⟩:=b
 rw [Bool.eq_iff_iff]
 simp [and_assoc]
theorem Ue (b:Bool) (p q:Rw):((b&&p.looks q)&&(bY p q&&(bf p q&&(p.pend==q.pend&&(p.top==q.top&&(p.bot==q.bot&&(((p.tabs:Int)==(q.tabs:Int))&&(p.wrap==q.wrap&&(p.keys==q.keys&&p.pad==q.pad)))))))))=(b&&p.same q):=by
 unfold Rw.same Rw.looks bY bf
 rw [Va,Va,Bool.eq_iff_iff]
 simp only [Bool.and_eq_true,beq_iff_eq,Int.natCast_inj]
 constructor
 ·intro h
  simp only [h,and_self]
 ·intro h
  simp only [h,and_self]
end SN
theorem YI (p q:SN.Rw) (x y:Value) (b c:Bool) (hb:b=true<->PG.Alike p.g q.g) (hc:(b&&p.looks q)=c) (w:World) (h:IsG w p.g (gv p.g.rows p.g.AB x)) (h':IsG w q.g (gv q.g.rows q.g.AB y)):
  Calls Tryz.prog 57 #[.agg (rwA x p),.agg (rwA y q)] w fun e w'=>e=.returned (.bool c)/\Below w.heap.size w w':=by
 obtain⟨A,cp,rfl⟩:=Af h
 obtain⟨A',cq,rfl⟩:=Af h'
 subst hc
 have GS:=hide (fun w' (hw:Below w.heap.size w w')=>(show Calls Tryz.prog 99 #[.agg #[.int .i64 p.g.rows,.int .i64 p.g.AB,.slice A (p.g.rows*p.g.AB) cp],.agg #[.int .i64 q.g.rows,.int .i64 q.g.AB,.slice A' (q.g.rows*q.g.AB) cq]] w' _ from Y9 b (h.low hw) (h'.low hw) hb))
 clear h h' hb
 unfold SN.Rw.looks
 obtain⟨e1,h1⟩: ∃e,(p.row==q.row)=e:=⟨_,rfl⟩
 obtain⟨e2,h2⟩: ∃e,(p.col==q.col)=e:=⟨_,rfl⟩
 obtain⟨e3,h3⟩: ∃e,(p.shown==q.shown)=e:=⟨_,rfl⟩
 rw [h1,h2,h3]
 go_enter Tryz.func57,Tryz.ntmps57
 go_upto_region 1 with (first | (refine EF rfl (.tmp 0) rfl rfl ?_;intro gp w1 hP1 hb1 hg1) | (refine EF rfl (.tmp 1) rfl rfl ?_;intro gq w2 hQ hb2 hg2))
 have hP:=hP1.below hb2 hP1.lt
 have hw:=hb1.trans (hb2.mono hb1.size)
 clear hP1 hb1 hb2
 have gp0:w2.cell? ⟨gp,0,none⟩=some (.int .i64 p.g.rows):=hP.c0
 have gp1:w2.cell? ⟨gp,1,none⟩=some (.int .i64 p.g.AB):=hP.c1
 have gp2:w2.cell? ⟨gp,2,none⟩=some ((.slice A (p.g.rows*p.g.AB) cp)):=hP.c2
 have gq0:w2.cell? ⟨gq,0,none⟩=some (.int .i64 q.g.rows):=hQ.c0
 have gq1:w2.cell? ⟨gq,1,none⟩=some (.int .i64 q.g.AB):=hQ.c1
 have gq2:w2.cell? ⟨gq,2,none⟩=some ((.slice A' (q.g.rows*q.g.AB) cq)):=hQ.c2
 go_wp2_with fail
 refine(GS.out _ hw).mono ?_
 rintro e w3 ⟨rfl,b3⟩
 have hP3:=hP.below b3 hP.lt
 have hQ3:=hQ.below b3 hQ.lt
 have hw3:=hw.trans (b3.mono hw.size)
 clear b3 hP hQ hw GS gp0 gp1 gp2 gq0 gq1 gq2
 have gp3:w3.cell? ⟨gp,3,none⟩=some (.int .i64 p.row):=hP3.c3
 have gp4:w3.cell? ⟨gp,4,none⟩=some (.int .i64 p.col):=hP3.c4
 have gp17:w3.cell? ⟨gp,17,none⟩=some (.bool p.shown):=hP3.c17
 have gq3:w3.cell? ⟨gq,3,none⟩=some (.int .i64 q.row):=hQ3.c3
 have gq4:w3.cell? ⟨gq,4,none⟩=some (.int .i64 q.col):=hQ3.c4
 have gq17:w3.cell? ⟨gq,17,none⟩=some (.bool q.shown):=hQ3.c17
 rcases b with _ | _
 ·skip
  go_wp2_with fail
  go_ret
  exact⟨rfl,hw3⟩
 ·skip
  rcases e1 with _ | _
  ·skip
   go_wp2_with fail
   go_ret
   exact⟨rfl,hw3⟩
  ·skip
   rcases e2 with _ | _
   ·skip
    go_wp2_with fail
    go_ret
    exact⟨rfl,hw3⟩
   ·skip
    go_wp2_with fail
    go_ret
    exact⟨rfl,hw3⟩
theorem bn (p q:SN.Rw) (x y:Value) (b c:Bool) (hb:b=true<->PG.Alike p.g q.g) (hc:(b&&p.same q)=c) (w:World) (h:IsG w p.g (gv p.g.rows p.g.AB x)) (h':IsG w q.g (gv q.g.rows q.g.AB y)):
  Calls Tryz.prog 23 #[.agg (rwA x p),.agg (rwA y q)] w fun e w'=>e=.returned (.bool c)/\Below w.heap.size w w':=by
 obtain⟨A,cp,rfl⟩:=Af h
 obtain⟨A',cq,rfl⟩:=Af h'
 subst hc
 rw [<- SN.Ue]
 obtain⟨l,hl⟩: ∃l,(b&&p.looks q)=l:=⟨_,rfl⟩
 rw [hl]
 have LK:=hide (fun w' (hw:Below w.heap.size w w')=>YI p q (.slice A (p.g.rows*p.g.AB) cp) (.slice A' (q.g.rows*q.g.AB) cq) b l hb hl w' (h.low hw) (h'.low hw))
 have CP:=hide (fun w'=>PN p (.slice A (p.g.rows*p.g.AB) cp) w')
 have CQ:=hide (fun w'=>PN q (.slice A' (q.g.rows*q.g.AB) cq) w')
 clear h h' hb hl
 obtain⟨cu,hcu⟩: ∃e,SN.bY p q=e:=⟨_,rfl⟩
 obtain⟨sv,hsv⟩: ∃e,SN.bf p q=e:=⟨_,rfl⟩
 have ECU: ∀w',(binOp .eql 41 (.agg #[.int .i64 p.row,.int .i64 p.col,.int .i64 p.pen.1,.int .i64 p.pen.2.1,.int .i64 p.pen.2.2,.int .u8 p.s0,.int .u8 p.s1,.int .i64 p.sh,.bool p.org]) (.agg #[.int .i64 q.row,.int .i64 q.col,.int .i64 q.pen.1,.int .i64 q.pen.2.1,.int .i64 q.pen.2.2,.int .u8 q.s0,.int .u8 q.s1,.int .i64 q.sh,.bool q.org])).run Tryz.prog w'=.ok (.bool cu) w':=fun w'=>by rw [PK];exact hcu▸rfl
 have ESV: ∀w',(binOp .eql 41 (.agg #[.int .i64 p.FR,.int .i64 p.FU,.int .i64 p.Bn.1,.int .i64 p.Bn.2.1,.int .i64 p.Bn.2.2,.int .u8 p.t0,.int .u8 p.t1,.int .i64 p.th,.bool p.so]) (.agg #[.int .i64 q.FR,.int .i64 q.FU,.int .i64 q.Bn.1,.int .i64 q.Bn.2.1,.int .i64 q.Bn.2.2,.int .u8 q.t0,.int .u8 q.t1,.int .i64 q.th,.bool q.so])).run Tryz.prog w'=.ok (.bool sv) w':=fun w'=>by rw [PK];exact hsv▸rfl
 rw [hcu,hsv]
 have vg:=Rk
 clear hcu hsv
 go_enter Tryz.func23,Tryz.ntmps23
 go_upto_region 1 with (first | (refine EF rfl (.tmp 0) rfl rfl ?_;intro gp w1 hP1 hb1 hg1) | (refine EF rfl (.tmp 1) rfl rfl ?_;intro gq w2 hQ hb2 hg2;have HP:=hide (hP1.below hb2 hP1.lt);have HQ:=hide hQ;have HW:=hide (hb1.trans (hb2.mono hb1.size));clear hP1 hb1 hb2 hQ))
 have LK2:=hide (fun w' (hb:Below w2.heap.size w2 w')=>LK.out w' (HW.out.trans (hb.mono HW.out.size)))
 clear LK
 obtain⟨g2,hg2⟩: ∃g,(l&&cu)=g:=⟨_,rfl⟩
 obtain⟨g3,hg3⟩: ∃g,(g2&&sv)=g:=⟨_,rfl⟩
 obtain⟨g4,hg4⟩: ∃g,(g3&&(p.pend==q.pend))=g:=⟨_,rfl⟩
 obtain⟨g5,hg5⟩: ∃g,(g4&&(p.top==q.top))=g:=⟨_,rfl⟩
 obtain⟨g6,hg6⟩: ∃g,(g5&&(p.bot==q.bot))=g:=⟨_,rfl⟩
 obtain⟨g7,hg7⟩: ∃g,(g6&&((p.tabs:Int)==(q.tabs:Int)))=g:=⟨_,rfl⟩
 obtain⟨g8,hg8⟩: ∃g,(g7&&(p.wrap==q.wrap))=g:=⟨_,rfl⟩
 obtain⟨g9,hg9⟩: ∃g,(g8&&(p.keys==q.keys))=g:=⟨_,rfl⟩
 obtain⟨g10,hg10⟩: ∃g,(g9&&(p.pad==q.pad))=g:=⟨_,rfl⟩
 refine EJ (n:=71) [] (fun _=> #[]) [(0,0,0,0,0),(0,0,0,0,0),(0,0,0,0,0),(0,0,0,0,0),(0,0,0,0,0),(0,0,0,0,0),(0,0,0,0,0),(0,0,0,0,0),(0,0,0,0,0),(0,0,0,0,0),(0,0,0,0,0),(0,0,0,0,0),(0,0,0,0,0),(0,0,0,0,0),(0,0,0,0,0),(0,0,0,0,0),(0,0,0,0,0),(0,0,0,0,0),(0,0,0,0,0),(0,0,0,0,0),(0,0,0,0,0),(0,0,0,0,0),(0,0,0,0,0),(0,0,0,0,0),(0,0,0,0,0),(0,0,0,0,0),(0,0,0,0,0),(0,0,0,0,0),(0,0,0,0,0),(0,0,0,0,0),(0,0,0,0,0),(0,0,0,0,0),(0,0,0,0,0),(0,0,0,0,0),(0,0,0,0,0),(0,0,0,0,0),(0,0,0,0,0),(0,0,0,0,0),(0,0,0,0,0),(0,0,0,0,0),(0,0,0,0,0),(0,0,0,0,0),(0,0,0,0,0),(0,0,0,0,0),(0,0,0,0,0),(0,0,0,0,0),(0,0,0,0,0),(0,0,0,0,0),(0,0,0,0,0),(0,0,0,0,0),(0,0,0,0,0),(0,0,0,0,0),(0,0,0,0,0),(0,0,0,0,0),(0,0,0,0,0),(0,0,0,0,0),(0,0,0,0,0),(0,0,0,0,0),(0,0,0,0,0),(0,0,0,0,0),(0,0,0,0,0),(0,0,0,0,0),(0,0,0,0,0),(0,0,0,0,0),(0,0,0,0,0),(0,0,0,0,0),(0,0,0,0,0)] (fun j=> [(.agg (rwA (.slice A (p.g.rows*p.g.AB) cp) p)),(.agg (rwA (.slice A' (q.g.rows*q.g.AB) cq) q)),(.bool l),(.bool l),cond l (.agg (rwA (.slice A (p.g.rows*p.g.AB) cp) p)) undef,cond l (.agg #[.int .i64 p.row,.int .i64 p.col,.int .i64 p.pen.1,.int .i64 p.pen.2.1,.int .i64 p.pen.2.2,.int .u8 p.s0,.int .u8 p.s1,.int .i64 p.sh,.bool p.org]) undef,cond l (.agg (rwA (.slice A' (q.g.rows*q.g.AB) cq) q)) undef,cond l (.agg #[.int .i64 q.row,.int .i64 q.col,.int .i64 q.pen.1,.int .i64 q.pen.2.1,.int .i64 q.pen.2.2,.int .u8 q.s0,.int .u8 q.s1,.int .i64 q.sh,.bool q.org]) undef,cond l (.bool cu) undef,(.bool g2),(.bool g2),cond g2 (.pointer (some ⟨gp,20,none⟩)) undef,cond g2 (.agg #[.int .i64 p.FR,.int .i64 p.FU,.int .i64 p.Bn.1,.int .i64 p.Bn.2.1,.int .i64 p.Bn.2.2,.int .u8 p.t0,.int .u8 p.t1,.int .i64 p.th,.bool p.so]) undef,cond g2 (.pointer (some ⟨gq,20,none⟩)) undef,cond g2 (.agg #[.int .i64 q.FR,.int .i64 q.FU,.int .i64 q.Bn.1,.int .i64 q.Bn.2.1,.int .i64 q.Bn.2.2,.int .u8 q.t0,.int .u8 q.t1,.int .i64 q.th,.bool q.so]) undef,cond g2 (.bool sv) undef,(.bool g3),(.bool g3),cond g3 (.pointer (some ⟨gp,5,none⟩)) undef,cond g3 (.bool p.pend) undef,cond g3 (.pointer (some ⟨gq,5,none⟩)) undef,cond g3 (.bool q.pend) undef,cond g3 (.bool (p.pend==q.pend)) undef,(.bool g4),(.bool g4),cond g4 (.pointer (some ⟨gp,6,none⟩)) undef,cond g4 (.int .i64 p.top) undef,cond g4 (.pointer (some ⟨gq,6,none⟩)) undef,cond g4 (.int .i64 q.top) undef,cond g4 (.bool (p.top==q.top)) undef,(.bool g5),(.bool g5),cond g5 (.pointer (some ⟨gp,7,none⟩)) undef,cond g5 (.int .i64 p.bot) undef,cond g5 (.pointer (some ⟨gq,7,none⟩)) undef,cond g5 (.int .i64 q.bot) undef,cond g5 (.bool (p.bot==q.bot)) undef,(.bool g6),(.bool g6),cond g6 (.pointer (some ⟨gp,11,none⟩)) undef,cond g6 (.int .u64 p.tabs) undef,cond g6 (.pointer (some ⟨gq,11,none⟩)) undef,cond g6 (.int .u64 q.tabs) undef,cond g6 (.bool ((p.tabs:Int)==(q.tabs:Int))) undef,(.bool g7),(.bool g7),cond g7 (.pointer (some ⟨gp,15,none⟩)) undef,cond g7 (.bool p.wrap) undef,cond g7 (.pointer (some ⟨gq,15,none⟩)) undef,cond g7 (.bool q.wrap) undef,cond g7 (.bool (p.wrap==q.wrap)) undef,(.bool g8),(.bool g8),cond g8 (.pointer (some ⟨gp,18,none⟩)) undef,cond g8 (.bool p.keys) undef,cond g8 (.pointer (some ⟨gq,18,none⟩)) undef,cond g8 (.bool q.keys) undef,cond g8 (.bool (p.keys==q.keys)) undef,(.bool g9),(.bool g9),cond g9 (.pointer (some ⟨gp,19,none⟩)) undef,cond g9 (.bool p.pad) undef,cond g9 (.pointer (some ⟨gq,19,none⟩)) undef,cond g9 (.bool q.pad) undef,cond g9 (.bool (p.pad==q.pad)) undef,(.bool g10),(.bool g10)].getD j undef) [] (fun _=>0) (by kernel_rfl) (by kernel_rfl) (by kernel_rfl) rfl (by kernel_rfl) (DV rfl) (fun i j h=>by revert h;exact DV (p:=fun _=>_) rfl i) (Ao.nil _) (fun hGS=>gD ⟨?_,?_,?_,?_,?_,?_,?_,?_,?_,?_,?_,?_,?_,?_,?_,?_,?_,?_,?_,?_,?_,?_,?_,?_,?_,?_,?_,?_,?_,?_,?_,?_,?_,?_,?_,?_,?_,?_,?_,?_,?_,?_,?_,?_,?_,?_,?_,?_,?_,?_,?_,?_,?_,?_,?_,?_,?_,?_,?_,?_,?_,?_,?_,?_,?_,?_,?_⟩) ?_
 ·intro L a w' hL hsame hsz hJ AJ hcl
  have hb:=hJ.kept.toBelow (Nat.le_refl _) (by simp)
  have e0:a.eval (.tmp 2)=(.pointer (some ⟨gp,0,none⟩)):=AZ hsame (by kernel_rfl)
  have hx:=hJ.Aj (HP.out) (by simp)
  exact Step.val _ rfl rfl (AV rfl) (.agg (rwA (.slice A (p.g.rows*p.g.AB) cp) p)) w' (fun ρ hρ=>BO hx rfl ρ _ rfl ((hρ _).symm.trans e0)) (hJ.val hGS hcl hL rfl (Below.refl _ _) _ rfl)
 ·intro L a w' hL hsame hsz hJ AJ hcl
  have hb:=hJ.kept.toBelow (Nat.le_refl _) (by simp)
  have e0:a.eval (.tmp 3)=(.pointer (some ⟨gq,0,none⟩)):=AZ hsame (by kernel_rfl)
  have hx:=hJ.Aj (HQ.out) (by simp)
  exact Step.val _ rfl rfl (AV rfl) (.agg (rwA (.slice A' (q.g.rows*q.g.AB) cq) q)) w' (fun ρ hρ=>BO hx rfl ρ _ rfl ((hρ _).symm.trans e0)) (hJ.val hGS hcl hL rfl (Below.refl _ _) _ rfl)
 ·intro L a w' hL hsame hsz hJ AJ hcl
  have hb:=hJ.kept.toBelow (Nat.le_refl _) (by simp)
  have e0:a.eval (.tmp 5)=(.agg (rwA (.slice A (p.g.rows*p.g.AB) cp) p)):=AQ (j:=0) (by kernel_rfl) (hJ.valOf (by decide) (AX AJ 0 (by kernel_rfl)) rfl rfl)
  have e1:a.eval (.tmp 6)=(.agg (rwA (.slice A' (q.g.rows*q.g.AB) cq) q)):=AQ (j:=1) (by kernel_rfl) (hJ.valOf (by decide) (AX AJ 1 (by kernel_rfl)) rfl rfl)
  refine Step.call _ rfl rfl (AV rfl) 57 #[.agg (rwA (.slice A (p.g.rows*p.g.AB) cp) p),.agg (rwA (.slice A' (q.g.rows*q.g.AB) cq) q)] (fun ρ hρ=>?_) ?_
  ·skip
   rw [hρ] at e0 e1
   have ef:ρ (.func 57)=.func (.func 57) #[] #[] :=(hρ _).symm
   clear hJ hsame AJ hcl hρ hsz hb
   go_simp
  ·refine(LK2.out _ hb).mono ?_
   rintro e w2 ⟨rfl,bb⟩
   exact⟨_,rfl,hJ.val hGS hcl hL rfl bb _ rfl⟩
 ·intro L a w' hL hsame hsz hJ AJ hcl
  refine Ay hJ hGS hcl hL 7 (.bool l) (.bool l) (gslot hJ AJ 2 (by kernel_rfl) (by kernel_rfl) (by decide) rfl rfl) _ rfl rfl rfl rfl rfl fun ρ _ e0=>?_
  clear hJ hsame AJ hcl hsz
  go_simp
 ·intro L a w' hL hsame hsz hJ AJ hcl
  cases l
  ·skip
   have gd:valOf _ 3 a=.bool false:=hJ.valOf (by decide) (AX AJ 3 (by kernel_rfl)) rfl rfl
   exact GStep.pass _ rfl (Al (g:=3) (b:=true) (c:=false) rfl gd (by decide)) (hJ.val hGS hcl hL rfl (Below.refl _ _) _ rfl)
  ·skip
   have gd:valOf _ 3 a=.bool true:=hJ.valOf (by decide) (AX AJ 3 (by kernel_rfl)) rfl rfl
   have hb:=hJ.kept.toBelow (Nat.le_refl _) (by simp)
   have e0:a.eval (.tmp 2)=(.pointer (some ⟨gp,0,none⟩)):=AZ hsame (by kernel_rfl)
   have hx:=hJ.Aj (HP.out) (by simp)
   exact Step.val _ rfl rfl (Ag (g:=3) (b:=true) rfl gd) (.agg (rwA (.slice A (p.g.rows*p.g.AB) cp) p)) w' (fun ρ hρ=>BO hx rfl ρ _ rfl ((hρ _).symm.trans e0)) (hJ.val hGS hcl hL rfl (Below.refl _ _) _ rfl)
 ·intro L a w' hL hsame hsz hJ AJ hcl
  cases l
  ·skip
   have gd:valOf _ 3 a=.bool false:=hJ.valOf (by decide) (AX AJ 3 (by kernel_rfl)) rfl rfl
   exact GStep.pass _ rfl (Al (g:=3) (b:=true) (c:=false) rfl gd (by decide)) (hJ.val hGS hcl hL rfl (Below.refl _ _) _ rfl)
  ·skip
   have gd:valOf _ 3 a=.bool true:=hJ.valOf (by decide) (AX AJ 3 (by kernel_rfl)) rfl rfl
   have hb:=hJ.kept.toBelow (Nat.le_refl _) (by simp)
   have e0:a.eval (.tmp 9)=(.agg (rwA (.slice A (p.g.rows*p.g.AB) cp) p)):=AQ (j:=4) (by kernel_rfl) (hJ.valOf (by decide) (AX AJ 4 (by kernel_rfl)) rfl rfl)
   refine Step.call _ rfl rfl (Ag (g:=3) (b:=true) rfl gd) 49 #[.agg (rwA (.slice A (p.g.rows*p.g.AB) cp) p)] (fun ρ hρ=>?_) ?_
   ·skip
    rw [hρ] at e0
    have ef:ρ (.func 49)=.func (.func 49) #[] #[] :=(hρ _).symm
    clear hJ hsame AJ hcl hρ hsz hb gd
    go_simp
   ·refine(CP.out _).mono ?_
    rintro e w2 ⟨rfl,bb⟩
    exact⟨_,rfl,hJ.val hGS hcl hL rfl bb _ rfl⟩
 ·intro L a w' hL hsame hsz hJ AJ hcl
  cases l
  ·skip
   have gd:valOf _ 3 a=.bool false:=hJ.valOf (by decide) (AX AJ 3 (by kernel_rfl)) rfl rfl
   exact GStep.pass _ rfl (Al (g:=3) (b:=true) (c:=false) rfl gd (by decide)) (hJ.val hGS hcl hL rfl (Below.refl _ _) _ rfl)
  ·skip
   have gd:valOf _ 3 a=.bool true:=hJ.valOf (by decide) (AX AJ 3 (by kernel_rfl)) rfl rfl
   have hb:=hJ.kept.toBelow (Nat.le_refl _) (by simp)
   have e0:a.eval (.tmp 3)=(.pointer (some ⟨gq,0,none⟩)):=AZ hsame (by kernel_rfl)
   have hx:=hJ.Aj (HQ.out) (by simp)
   exact Step.val _ rfl rfl (Ag (g:=3) (b:=true) rfl gd) (.agg (rwA (.slice A' (q.g.rows*q.g.AB) cq) q)) w' (fun ρ hρ=>BO hx rfl ρ _ rfl ((hρ _).symm.trans e0)) (hJ.val hGS hcl hL rfl (Below.refl _ _) _ rfl)
 ·intro L a w' hL hsame hsz hJ AJ hcl
  cases l
  ·skip
   have gd:valOf _ 3 a=.bool false:=hJ.valOf (by decide) (AX AJ 3 (by kernel_rfl)) rfl rfl
   exact GStep.pass _ rfl (Al (g:=3) (b:=true) (c:=false) rfl gd (by decide)) (hJ.val hGS hcl hL rfl (Below.refl _ _) _ rfl)
  ·skip
   have gd:valOf _ 3 a=.bool true:=hJ.valOf (by decide) (AX AJ 3 (by kernel_rfl)) rfl rfl
   have hb:=hJ.kept.toBelow (Nat.le_refl _) (by simp)
   have e0:a.eval (.tmp 11)=(.agg (rwA (.slice A' (q.g.rows*q.g.AB) cq) q)):=AQ (j:=6) (by kernel_rfl) (hJ.valOf (by decide) (AX AJ 6 (by kernel_rfl)) rfl rfl)
   refine Step.call _ rfl rfl (Ag (g:=3) (b:=true) rfl gd) 49 #[.agg (rwA (.slice A' (q.g.rows*q.g.AB) cq) q)] (fun ρ hρ=>?_) ?_
   ·skip
    rw [hρ] at e0
    have ef:ρ (.func 49)=.func (.func 49) #[] #[] :=(hρ _).symm
    clear hJ hsame AJ hcl hρ hsz hb gd
    go_simp
   ·refine(CQ.out _).mono ?_
    rintro e w2 ⟨rfl,bb⟩
    exact⟨_,rfl,hJ.val hGS hcl hL rfl bb _ rfl⟩
 ·intro L a w' hL hsame hsz hJ AJ hcl
  cases l
  ·skip
   have gd:valOf _ 3 a=.bool false:=hJ.valOf (by decide) (AX AJ 3 (by kernel_rfl)) rfl rfl
   exact GStep.pass _ rfl (Al (g:=3) (b:=true) (c:=false) rfl gd (by decide)) (hJ.val hGS hcl hL rfl (Below.refl _ _) _ rfl)
  ·skip
   have gd:valOf _ 3 a=.bool true:=hJ.valOf (by decide) (AX AJ 3 (by kernel_rfl)) rfl rfl
   have hb:=hJ.kept.toBelow (Nat.le_refl _) (by simp)
   have e0:a.eval (.tmp 10)=(.agg #[.int .i64 p.row,.int .i64 p.col,.int .i64 p.pen.1,.int .i64 p.pen.2.1,.int .i64 p.pen.2.2,.int .u8 p.s0,.int .u8 p.s1,.int .i64 p.sh,.bool p.org]):=AQ (j:=5) (by kernel_rfl) (hJ.valOf (by decide) (AX AJ 5 (by kernel_rfl)) rfl rfl)
   have e1:a.eval (.tmp 12)=(.agg #[.int .i64 q.row,.int .i64 q.col,.int .i64 q.pen.1,.int .i64 q.pen.2.1,.int .i64 q.pen.2.2,.int .u8 q.s0,.int .u8 q.s1,.int .i64 q.sh,.bool q.org]):=AQ (j:=7) (by kernel_rfl) (hJ.valOf (by decide) (AX AJ 7 (by kernel_rfl)) rfl rfl)
   refine Step.val _ rfl rfl (Ag (g:=3) (b:=true) rfl gd) (.bool cu) w' (fun ρ hρ=>?_) (hJ.val hGS hcl hL rfl (Below.refl _ _) _ rfl)
   rw [hρ] at e0 e1
   clear hJ hsame AJ hcl hρ hsz hb gd
   go_simp
 ·intro L a w' hL hsame hsz hJ AJ hcl
  cases l
  ·skip
   have hb:=hJ.kept.toBelow (Nat.le_refl _) (by simp)
   have e0:a.eval (.tmp 8)=(.bool false):=AQ (j:=3) (by kernel_rfl) (hJ.valOf (by decide) (AX AJ 3 (by kernel_rfl)) rfl rfl)
   have e1:a.eval (.tmp 13)=undef:=AQ (j:=8) (by kernel_rfl) (hJ.valOf (by decide) (AX AJ 8 (by kernel_rfl)) rfl rfl)
   refine Step.val _ rfl rfl (AV rfl) (.bool g2) w' (fun ρ hρ=>?_) (hJ.val hGS hcl hL rfl (Below.refl _ _) _ rfl)
   rw [hρ] at e0 e1
   have ec0:ρ (.const (.bool false))=(.bool false):=(hρ _).symm
   subst hg2
   clear hJ hsame AJ hcl hρ hsz hb
   go_simp
  ·skip
   have hb:=hJ.kept.toBelow (Nat.le_refl _) (by simp)
   have e0:a.eval (.tmp 8)=(.bool true):=AQ (j:=3) (by kernel_rfl) (hJ.valOf (by decide) (AX AJ 3 (by kernel_rfl)) rfl rfl)
   have e1:a.eval (.tmp 13)=(.bool cu):=AQ (j:=8) (by kernel_rfl) (hJ.valOf (by decide) (AX AJ 8 (by kernel_rfl)) rfl rfl)
   refine Step.val _ rfl rfl (AV rfl) (.bool g2) w' (fun ρ hρ=>?_) (hJ.val hGS hcl hL rfl (Below.refl _ _) _ rfl)
   rw [hρ] at e0 e1
   have ec0:ρ (.const (.bool false))=(.bool false):=(hρ _).symm
   subst hg2
   clear hJ hsame AJ hcl hρ hsz hb
   go_simp
 ·intro L a w' hL hsame hsz hJ AJ hcl
  refine Ay hJ hGS hcl hL 14 (.bool g2) (.bool g2) (gslot hJ AJ 9 (by kernel_rfl) (by kernel_rfl) (by decide) rfl rfl) _ rfl rfl rfl rfl rfl fun ρ _ e0=>?_
  clear hJ hsame AJ hcl hsz
  go_simp
 ·intro L a w' hL hsame hsz hJ AJ hcl
  cases g2
  ·skip
   have gd:valOf _ 10 a=.bool false:=hJ.valOf (by decide) (AX AJ 10 (by kernel_rfl)) rfl rfl
   exact GStep.pass _ rfl (Al (g:=10) (b:=true) (c:=false) rfl gd (by decide)) (hJ.val hGS hcl hL rfl (Below.refl _ _) _ rfl)
  ·skip
   have gd:valOf _ 10 a=.bool true:=hJ.valOf (by decide) (AX AJ 10 (by kernel_rfl)) rfl rfl
   have hb:=hJ.kept.toBelow (Nat.le_refl _) (by simp)
   have e0:a.eval (.tmp 2)=(.pointer (some ⟨gp,0,none⟩)):=AZ hsame (by kernel_rfl)
   refine Step.val _ rfl rfl (Ag (g:=10) (b:=true) rfl gd) (.pointer (some ⟨gp,20,none⟩)) w' (fun ρ hρ=>?_) (hJ.val hGS hcl hL rfl (Below.refl _ _) _ rfl)
   rw [hρ] at e0
   clear hJ hsame AJ hcl hρ hsz hb gd
   go_simp
 ·intro L a w' hL hsame hsz hJ AJ hcl
  cases g2
  ·skip
   have gd:valOf _ 10 a=.bool false:=hJ.valOf (by decide) (AX AJ 10 (by kernel_rfl)) rfl rfl
   exact GStep.pass _ rfl (Al (g:=10) (b:=true) (c:=false) rfl gd (by decide)) (hJ.val hGS hcl hL rfl (Below.refl _ _) _ rfl)
  ·skip
   have gd:valOf _ 10 a=.bool true:=hJ.valOf (by decide) (AX AJ 10 (by kernel_rfl)) rfl rfl
   have hb:=hJ.kept.toBelow (Nat.le_refl _) (by simp)
   have e0:a.eval (.tmp 16)=(.pointer (some ⟨gp,20,none⟩)):=AQ (j:=11) (by kernel_rfl) (hJ.valOf (by decide) (AX AJ 11 (by kernel_rfl)) rfl rfl)
   have hx:=hJ.Aj (HP.out) (by simp)
   have q0:w'.cell? ⟨gp,20,none⟩=some (.int .i64 p.FR):=hx.cell 20
   have q1:w'.cell? ⟨gp,21,none⟩=some (.int .i64 p.FU):=hx.cell 21
   have q2:w'.cell? ⟨gp,22,none⟩=some (.int .i64 p.Bn.1):=hx.cell 22
   have q3:w'.cell? ⟨gp,23,none⟩=some (.int .i64 p.Bn.2.1):=hx.cell 23
   have q4:w'.cell? ⟨gp,24,none⟩=some (.int .i64 p.Bn.2.2):=hx.cell 24
   have q5:w'.cell? ⟨gp,25,none⟩=some (.int .u8 p.t0):=hx.cell 25
   have q6:w'.cell? ⟨gp,26,none⟩=some (.int .u8 p.t1):=hx.cell 26
   have q7:w'.cell? ⟨gp,27,none⟩=some (.int .i64 p.th):=hx.cell 27
   have q8:w'.cell? ⟨gp,28,none⟩=some (.bool p.so):=hx.cell 28
   refine Step.val _ rfl rfl (Ag (g:=10) (b:=true) rfl gd) (.agg #[.int .i64 p.FR,.int .i64 p.FU,.int .i64 p.Bn.1,.int .i64 p.Bn.2.1,.int .i64 p.Bn.2.2,.int .u8 p.t0,.int .u8 p.t1,.int .i64 p.th,.bool p.so]) w' (fun ρ hρ=>?_) (hJ.val hGS hcl hL rfl (Below.refl _ _) _ rfl)
   clear hx
   rw [hρ] at e0
   clear hJ hsame AJ hcl hρ hsz hb gd
   go_simp
 ·intro L a w' hL hsame hsz hJ AJ hcl
  cases g2
  ·skip
   have gd:valOf _ 10 a=.bool false:=hJ.valOf (by decide) (AX AJ 10 (by kernel_rfl)) rfl rfl
   exact GStep.pass _ rfl (Al (g:=10) (b:=true) (c:=false) rfl gd (by decide)) (hJ.val hGS hcl hL rfl (Below.refl _ _) _ rfl)
  ·skip
   have gd:valOf _ 10 a=.bool true:=hJ.valOf (by decide) (AX AJ 10 (by kernel_rfl)) rfl rfl
   have hb:=hJ.kept.toBelow (Nat.le_refl _) (by simp)
   have e0:a.eval (.tmp 3)=(.pointer (some ⟨gq,0,none⟩)):=AZ hsame (by kernel_rfl)
   refine Step.val _ rfl rfl (Ag (g:=10) (b:=true) rfl gd) (.pointer (some ⟨gq,20,none⟩)) w' (fun ρ hρ=>?_) (hJ.val hGS hcl hL rfl (Below.refl _ _) _ rfl)
   rw [hρ] at e0
   clear hJ hsame AJ hcl hρ hsz hb gd
   go_simp
 ·intro L a w' hL hsame hsz hJ AJ hcl
  cases g2
  ·skip
   have gd:valOf _ 10 a=.bool false:=hJ.valOf (by decide) (AX AJ 10 (by kernel_rfl)) rfl rfl
   exact GStep.pass _ rfl (Al (g:=10) (b:=true) (c:=false) rfl gd (by decide)) (hJ.val hGS hcl hL rfl (Below.refl _ _) _ rfl)
  ·skip
   have gd:valOf _ 10 a=.bool true:=hJ.valOf (by decide) (AX AJ 10 (by kernel_rfl)) rfl rfl
   have hb:=hJ.kept.toBelow (Nat.le_refl _) (by simp)
   have e0:a.eval (.tmp 18)=(.pointer (some ⟨gq,20,none⟩)):=AQ (j:=13) (by kernel_rfl) (hJ.valOf (by decide) (AX AJ 13 (by kernel_rfl)) rfl rfl)
   have hx:=hJ.Aj (HQ.out) (by simp)
   have q0:w'.cell? ⟨gq,20,none⟩=some (.int .i64 q.FR):=hx.cell 20
   have q1:w'.cell? ⟨gq,21,none⟩=some (.int .i64 q.FU):=hx.cell 21
   have q2:w'.cell? ⟨gq,22,none⟩=some (.int .i64 q.Bn.1):=hx.cell 22
   have q3:w'.cell? ⟨gq,23,none⟩=some (.int .i64 q.Bn.2.1):=hx.cell 23
   have q4:w'.cell? ⟨gq,24,none⟩=some (.int .i64 q.Bn.2.2):=hx.cell 24
   have q5:w'.cell? ⟨gq,25,none⟩=some (.int .u8 q.t0):=hx.cell 25
   have q6:w'.cell? ⟨gq,26,none⟩=some (.int .u8 q.t1):=hx.cell 26
   have q7:w'.cell? ⟨gq,27,none⟩=some (.int .i64 q.th):=hx.cell 27
   have q8:w'.cell? ⟨gq,28,none⟩=some (.bool q.so):=hx.cell 28
   refine Step.val _ rfl rfl (Ag (g:=10) (b:=true) rfl gd) (.agg #[.int .i64 q.FR,.int .i64 q.FU,.int .i64 q.Bn.1,.int .i64 q.Bn.2.1,.int .i64 q.Bn.2.2,.int .u8 q.t0,.int .u8 q.t1,.int .i64 q.th,.bool q.so]) w' (fun ρ hρ=>?_) (hJ.val hGS hcl hL rfl (Below.refl _ _) _ rfl)
   clear hx
   rw [hρ] at e0
   clear hJ hsame AJ hcl hρ hsz hb gd
   go_simp
 ·intro L a w' hL hsame hsz hJ AJ hcl
  cases g2
  ·skip
   have gd:valOf _ 10 a=.bool false:=hJ.valOf (by decide) (AX AJ 10 (by kernel_rfl)) rfl rfl
   exact GStep.pass _ rfl (Al (g:=10) (b:=true) (c:=false) rfl gd (by decide)) (hJ.val hGS hcl hL rfl (Below.refl _ _) _ rfl)
  ·skip
   have gd:valOf _ 10 a=.bool true:=hJ.valOf (by decide) (AX AJ 10 (by kernel_rfl)) rfl rfl
   have hb:=hJ.kept.toBelow (Nat.le_refl _) (by simp)
   have e0:a.eval (.tmp 17)=(.agg #[.int .i64 p.FR,.int .i64 p.FU,.int .i64 p.Bn.1,.int .i64 p.Bn.2.1,.int .i64 p.Bn.2.2,.int .u8 p.t0,.int .u8 p.t1,.int .i64 p.th,.bool p.so]):=AQ (j:=12) (by kernel_rfl) (hJ.valOf (by decide) (AX AJ 12 (by kernel_rfl)) rfl rfl)
   have e1:a.eval (.tmp 19)=(.agg #[.int .i64 q.FR,.int .i64 q.FU,.int .i64 q.Bn.1,.int .i64 q.Bn.2.1,.int .i64 q.Bn.2.2,.int .u8 q.t0,.int .u8 q.t1,.int .i64 q.th,.bool q.so]):=AQ (j:=14) (by kernel_rfl) (hJ.valOf (by decide) (AX AJ 14 (by kernel_rfl)) rfl rfl)
   refine Step.val _ rfl rfl (Ag (g:=10) (b:=true) rfl gd) (.bool sv) w' (fun ρ hρ=>?_) (hJ.val hGS hcl hL rfl (Below.refl _ _) _ rfl)
   rw [hρ] at e0 e1
   clear hJ hsame AJ hcl hρ hsz hb gd
   go_simp
 ·intro L a w' hL hsame hsz hJ AJ hcl
  cases g2
  ·skip
   have hb:=hJ.kept.toBelow (Nat.le_refl _) (by simp)
   have e0:a.eval (.tmp 15)=(.bool false):=AQ (j:=10) (by kernel_rfl) (hJ.valOf (by decide) (AX AJ 10 (by kernel_rfl)) rfl rfl)
   have e1:a.eval (.tmp 20)=undef:=AQ (j:=15) (by kernel_rfl) (hJ.valOf (by decide) (AX AJ 15 (by kernel_rfl)) rfl rfl)
   refine Step.val _ rfl rfl (AV rfl) (.bool g3) w' (fun ρ hρ=>?_) (hJ.val hGS hcl hL rfl (Below.refl _ _) _ rfl)
   rw [hρ] at e0 e1
   have ec0:ρ (.const (.bool false))=(.bool false):=(hρ _).symm
   subst hg3
   clear hJ hsame AJ hcl hρ hsz hb
   go_simp
  ·skip
   have hb:=hJ.kept.toBelow (Nat.le_refl _) (by simp)
   have e0:a.eval (.tmp 15)=(.bool true):=AQ (j:=10) (by kernel_rfl) (hJ.valOf (by decide) (AX AJ 10 (by kernel_rfl)) rfl rfl)
   have e1:a.eval (.tmp 20)=(.bool sv):=AQ (j:=15) (by kernel_rfl) (hJ.valOf (by decide) (AX AJ 15 (by kernel_rfl)) rfl rfl)
   refine Step.val _ rfl rfl (AV rfl) (.bool g3) w' (fun ρ hρ=>?_) (hJ.val hGS hcl hL rfl (Below.refl _ _) _ rfl)
   rw [hρ] at e0 e1
   have ec0:ρ (.const (.bool false))=(.bool false):=(hρ _).symm
   subst hg3
   clear hJ hsame AJ hcl hρ hsz hb
   go_simp
 ·intro L a w' hL hsame hsz hJ AJ hcl
  refine Ay hJ hGS hcl hL 21 (.bool g3) (.bool g3) (gslot hJ AJ 16 (by kernel_rfl) (by kernel_rfl) (by decide) rfl rfl) _ rfl rfl rfl rfl rfl fun ρ _ e0=>?_
  clear hJ hsame AJ hcl hsz
  go_simp
 ·intro L a w' hL hsame hsz hJ AJ hcl
  cases g3
  ·skip
   have gd:valOf _ 17 a=.bool false:=hJ.valOf (by decide) (AX AJ 17 (by kernel_rfl)) rfl rfl
   exact GStep.pass _ rfl (Al (g:=17) (b:=true) (c:=false) rfl gd (by decide)) (hJ.val hGS hcl hL rfl (Below.refl _ _) _ rfl)
  ·skip
   have gd:valOf _ 17 a=.bool true:=hJ.valOf (by decide) (AX AJ 17 (by kernel_rfl)) rfl rfl
   have hb:=hJ.kept.toBelow (Nat.le_refl _) (by simp)
   have e0:a.eval (.tmp 2)=(.pointer (some ⟨gp,0,none⟩)):=AZ hsame (by kernel_rfl)
   refine Step.val _ rfl rfl (Ag (g:=17) (b:=true) rfl gd) (.pointer (some ⟨gp,5,none⟩)) w' (fun ρ hρ=>?_) (hJ.val hGS hcl hL rfl (Below.refl _ _) _ rfl)
   rw [hρ] at e0
   clear hJ hsame AJ hcl hρ hsz hb gd
   go_simp
 ·intro L a w' hL hsame hsz hJ AJ hcl
  cases g3
  ·skip
   have gd:valOf _ 17 a=.bool false:=hJ.valOf (by decide) (AX AJ 17 (by kernel_rfl)) rfl rfl
   exact GStep.pass _ rfl (Al (g:=17) (b:=true) (c:=false) rfl gd (by decide)) (hJ.val hGS hcl hL rfl (Below.refl _ _) _ rfl)
  ·skip
   have gd:valOf _ 17 a=.bool true:=hJ.valOf (by decide) (AX AJ 17 (by kernel_rfl)) rfl rfl
   have hb:=hJ.kept.toBelow (Nat.le_refl _) (by simp)
   have e0:a.eval (.tmp 23)=(.pointer (some ⟨gp,5,none⟩)):=AQ (j:=18) (by kernel_rfl) (hJ.valOf (by decide) (AX AJ 18 (by kernel_rfl)) rfl rfl)
   have hx:=hJ.Aj (HP.out) (by simp)
   have q0:w'.cell? ⟨gp,5,none⟩=some (.bool p.pend):=hx.cell 5
   refine Step.val _ rfl rfl (Ag (g:=17) (b:=true) rfl gd) (.bool p.pend) w' (fun ρ hρ=>?_) (hJ.val hGS hcl hL rfl (Below.refl _ _) _ rfl)
   clear hx
   rw [hρ] at e0
   clear hJ hsame AJ hcl hρ hsz hb gd
   go_simp
 ·intro L a w' hL hsame hsz hJ AJ hcl
  cases g3
  ·skip
   have gd:valOf _ 17 a=.bool false:=hJ.valOf (by decide) (AX AJ 17 (by kernel_rfl)) rfl rfl
   exact GStep.pass _ rfl (Al (g:=17) (b:=true) (c:=false) rfl gd (by decide)) (hJ.val hGS hcl hL rfl (Below.refl _ _) _ rfl)
  ·skip
   have gd:valOf _ 17 a=.bool true:=hJ.valOf (by decide) (AX AJ 17 (by kernel_rfl)) rfl rfl
   have hb:=hJ.kept.toBelow (Nat.le_refl _) (by simp)
   have e0:a.eval (.tmp 3)=(.pointer (some ⟨gq,0,none⟩)):=AZ hsame (by kernel_rfl)
   refine Step.val _ rfl rfl (Ag (g:=17) (b:=true) rfl gd) (.pointer (some ⟨gq,5,none⟩)) w' (fun ρ hρ=>?_) (hJ.val hGS hcl hL rfl (Below.refl _ _) _ rfl)
   rw [hρ] at e0
   clear hJ hsame AJ hcl hρ hsz hb gd
   go_simp
 ·intro L a w' hL hsame hsz hJ AJ hcl
  cases g3
  ·skip
   have gd:valOf _ 17 a=.bool false:=hJ.valOf (by decide) (AX AJ 17 (by kernel_rfl)) rfl rfl
   exact GStep.pass _ rfl (Al (g:=17) (b:=true) (c:=false) rfl gd (by decide)) (hJ.val hGS hcl hL rfl (Below.refl _ _) _ rfl)
  ·skip
   have gd:valOf _ 17 a=.bool true:=hJ.valOf (by decide) (AX AJ 17 (by kernel_rfl)) rfl rfl
   have hb:=hJ.kept.toBelow (Nat.le_refl _) (by simp)
   have e0:a.eval (.tmp 25)=(.pointer (some ⟨gq,5,none⟩)):=AQ (j:=20) (by kernel_rfl) (hJ.valOf (by decide) (AX AJ 20 (by kernel_rfl)) rfl rfl)
   have hx:=hJ.Aj (HQ.out) (by simp)
   have q0:w'.cell? ⟨gq,5,none⟩=some (.bool q.pend):=hx.cell 5
   refine Step.val _ rfl rfl (Ag (g:=17) (b:=true) rfl gd) (.bool q.pend) w' (fun ρ hρ=>?_) (hJ.val hGS hcl hL rfl (Below.refl _ _) _ rfl)
   clear hx
   rw [hρ] at e0
   clear hJ hsame AJ hcl hρ hsz hb gd
   go_simp
 ·intro L a w' hL hsame hsz hJ AJ hcl
  cases g3
  ·skip
   have gd:valOf _ 17 a=.bool false:=hJ.valOf (by decide) (AX AJ 17 (by kernel_rfl)) rfl rfl
   exact GStep.pass _ rfl (Al (g:=17) (b:=true) (c:=false) rfl gd (by decide)) (hJ.val hGS hcl hL rfl (Below.refl _ _) _ rfl)
  ·skip
   have gd:valOf _ 17 a=.bool true:=hJ.valOf (by decide) (AX AJ 17 (by kernel_rfl)) rfl rfl
   have hb:=hJ.kept.toBelow (Nat.le_refl _) (by simp)
   have e0:a.eval (.tmp 24)=(.bool p.pend):=AQ (j:=19) (by kernel_rfl) (hJ.valOf (by decide) (AX AJ 19 (by kernel_rfl)) rfl rfl)
   have e1:a.eval (.tmp 26)=(.bool q.pend):=AQ (j:=21) (by kernel_rfl) (hJ.valOf (by decide) (AX AJ 21 (by kernel_rfl)) rfl rfl)
   refine Step.val _ rfl rfl (Ag (g:=17) (b:=true) rfl gd) (.bool (p.pend==q.pend)) w' (fun ρ hρ=>?_) (hJ.val hGS hcl hL rfl (Below.refl _ _) _ rfl)
   rw [hρ] at e0 e1
   clear hJ hsame AJ hcl hρ hsz hb gd
   go_simp
 ·intro L a w' hL hsame hsz hJ AJ hcl
  cases g3
  ·skip
   have hb:=hJ.kept.toBelow (Nat.le_refl _) (by simp)
   have e0:a.eval (.tmp 22)=(.bool false):=AQ (j:=17) (by kernel_rfl) (hJ.valOf (by decide) (AX AJ 17 (by kernel_rfl)) rfl rfl)
   have e1:a.eval (.tmp 27)=undef:=AQ (j:=22) (by kernel_rfl) (hJ.valOf (by decide) (AX AJ 22 (by kernel_rfl)) rfl rfl)
   refine Step.val _ rfl rfl (AV rfl) (.bool g4) w' (fun ρ hρ=>?_) (hJ.val hGS hcl hL rfl (Below.refl _ _) _ rfl)
   rw [hρ] at e0 e1
   have ec0:ρ (.const (.bool false))=(.bool false):=(hρ _).symm
   subst hg4
   clear hJ hsame AJ hcl hρ hsz hb
   go_simp
  ·skip
   have hb:=hJ.kept.toBelow (Nat.le_refl _) (by simp)
   have e0:a.eval (.tmp 22)=(.bool true):=AQ (j:=17) (by kernel_rfl) (hJ.valOf (by decide) (AX AJ 17 (by kernel_rfl)) rfl rfl)
   have e1:a.eval (.tmp 27)=(.bool (p.pend==q.pend)):=AQ (j:=22) (by kernel_rfl) (hJ.valOf (by decide) (AX AJ 22 (by kernel_rfl)) rfl rfl)
   refine Step.val _ rfl rfl (AV rfl) (.bool g4) w' (fun ρ hρ=>?_) (hJ.val hGS hcl hL rfl (Below.refl _ _) _ rfl)
   rw [hρ] at e0 e1
   have ec0:ρ (.const (.bool false))=(.bool false):=(hρ _).symm
   subst hg4
   clear hJ hsame AJ hcl hρ hsz hb
   go_simp
 ·intro L a w' hL hsame hsz hJ AJ hcl
  refine Ay hJ hGS hcl hL 28 (.bool g4) (.bool g4) (gslot hJ AJ 23 (by kernel_rfl) (by kernel_rfl) (by decide) rfl rfl) _ rfl rfl rfl rfl rfl fun ρ _ e0=>?_
  clear hJ hsame AJ hcl hsz
  go_simp
 ·intro L a w' hL hsame hsz hJ AJ hcl
  cases g4
  ·skip
   have gd:valOf _ 24 a=.bool false:=hJ.valOf (by decide) (AX AJ 24 (by kernel_rfl)) rfl rfl
   exact GStep.pass _ rfl (Al (g:=24) (b:=true) (c:=false) rfl gd (by decide)) (hJ.val hGS hcl hL rfl (Below.refl _ _) _ rfl)
  ·skip
   have gd:valOf _ 24 a=.bool true:=hJ.valOf (by decide) (AX AJ 24 (by kernel_rfl)) rfl rfl
   have hb:=hJ.kept.toBelow (Nat.le_refl _) (by simp)
   have e0:a.eval (.tmp 2)=(.pointer (some ⟨gp,0,none⟩)):=AZ hsame (by kernel_rfl)
   refine Step.val _ rfl rfl (Ag (g:=24) (b:=true) rfl gd) (.pointer (some ⟨gp,6,none⟩)) w' (fun ρ hρ=>?_) (hJ.val hGS hcl hL rfl (Below.refl _ _) _ rfl)
   rw [hρ] at e0
   clear hJ hsame AJ hcl hρ hsz hb gd
   go_simp
 ·intro L a w' hL hsame hsz hJ AJ hcl
  cases g4
  ·skip
   have gd:valOf _ 24 a=.bool false:=hJ.valOf (by decide) (AX AJ 24 (by kernel_rfl)) rfl rfl
   exact GStep.pass _ rfl (Al (g:=24) (b:=true) (c:=false) rfl gd (by decide)) (hJ.val hGS hcl hL rfl (Below.refl _ _) _ rfl)
  ·skip
   have gd:valOf _ 24 a=.bool true:=hJ.valOf (by decide) (AX AJ 24 (by kernel_rfl)) rfl rfl
   have hb:=hJ.kept.toBelow (Nat.le_refl _) (by simp)
   have e0:a.eval (.tmp 30)=(.pointer (some ⟨gp,6,none⟩)):=AQ (j:=25) (by kernel_rfl) (hJ.valOf (by decide) (AX AJ 25 (by kernel_rfl)) rfl rfl)
   have hx:=hJ.Aj (HP.out) (by simp)
   have q0:w'.cell? ⟨gp,6,none⟩=some (.int .i64 p.top):=hx.cell 6
   refine Step.val _ rfl rfl (Ag (g:=24) (b:=true) rfl gd) (.int .i64 p.top) w' (fun ρ hρ=>?_) (hJ.val hGS hcl hL rfl (Below.refl _ _) _ rfl)
   clear hx
   rw [hρ] at e0
   clear hJ hsame AJ hcl hρ hsz hb gd
   go_simp
 ·intro L a w' hL hsame hsz hJ AJ hcl
  cases g4
  ·skip
   have gd:valOf _ 24 a=.bool false:=hJ.valOf (by decide) (AX AJ 24 (by kernel_rfl)) rfl rfl
   exact GStep.pass _ rfl (Al (g:=24) (b:=true) (c:=false) rfl gd (by decide)) (hJ.val hGS hcl hL rfl (Below.refl _ _) _ rfl)
  ·skip
   have gd:valOf _ 24 a=.bool true:=hJ.valOf (by decide) (AX AJ 24 (by kernel_rfl)) rfl rfl
   have hb:=hJ.kept.toBelow (Nat.le_refl _) (by simp)
   have e0:a.eval (.tmp 3)=(.pointer (some ⟨gq,0,none⟩)):=AZ hsame (by kernel_rfl)
   refine Step.val _ rfl rfl (Ag (g:=24) (b:=true) rfl gd) (.pointer (some ⟨gq,6,none⟩)) w' (fun ρ hρ=>?_) (hJ.val hGS hcl hL rfl (Below.refl _ _) _ rfl)
   rw [hρ] at e0
   clear hJ hsame AJ hcl hρ hsz hb gd
   go_simp
 ·intro L a w' hL hsame hsz hJ AJ hcl
  cases g4
  ·skip
   have gd:valOf _ 24 a=.bool false:=hJ.valOf (by decide) (AX AJ 24 (by kernel_rfl)) rfl rfl
   exact GStep.pass _ rfl (Al (g:=24) (b:=true) (c:=false) rfl gd (by decide)) (hJ.val hGS hcl hL rfl (Below.refl _ _) _ rfl)
  ·skip
   have gd:valOf _ 24 a=.bool true:=hJ.valOf (by decide) (AX AJ 24 (by kernel_rfl)) rfl rfl
   have hb:=hJ.kept.toBelow (Nat.le_refl _) (by simp)
   have e0:a.eval (.tmp 32)=(.pointer (some ⟨gq,6,none⟩)):=AQ (j:=27) (by kernel_rfl) (hJ.valOf (by decide) (AX AJ 27 (by kernel_rfl)) rfl rfl)
   have hx:=hJ.Aj (HQ.out) (by simp)
   have q0:w'.cell? ⟨gq,6,none⟩=some (.int .i64 q.top):=hx.cell 6
   refine Step.val _ rfl rfl (Ag (g:=24) (b:=true) rfl gd) (.int .i64 q.top) w' (fun ρ hρ=>?_) (hJ.val hGS hcl hL rfl (Below.refl _ _) _ rfl)
   clear hx
   rw [hρ] at e0
   clear hJ hsame AJ hcl hρ hsz hb gd
   go_simp
 ·intro L a w' hL hsame hsz hJ AJ hcl
  cases g4
  ·skip
   have gd:valOf _ 24 a=.bool false:=hJ.valOf (by decide) (AX AJ 24 (by kernel_rfl)) rfl rfl
   exact GStep.pass _ rfl (Al (g:=24) (b:=true) (c:=false) rfl gd (by decide)) (hJ.val hGS hcl hL rfl (Below.refl _ _) _ rfl)
  ·skip
   have gd:valOf _ 24 a=.bool true:=hJ.valOf (by decide) (AX AJ 24 (by kernel_rfl)) rfl rfl
   have hb:=hJ.kept.toBelow (Nat.le_refl _) (by simp)
   have e0:a.eval (.tmp 31)=(.int .i64 p.top):=AQ (j:=26) (by kernel_rfl) (hJ.valOf (by decide) (AX AJ 26 (by kernel_rfl)) rfl rfl)
   have e1:a.eval (.tmp 33)=(.int .i64 q.top):=AQ (j:=28) (by kernel_rfl) (hJ.valOf (by decide) (AX AJ 28 (by kernel_rfl)) rfl rfl)
   refine Step.val _ rfl rfl (Ag (g:=24) (b:=true) rfl gd) (.bool (p.top==q.top)) w' (fun ρ hρ=>?_) (hJ.val hGS hcl hL rfl (Below.refl _ _) _ rfl)
   rw [hρ] at e0 e1
   clear hJ hsame AJ hcl hρ hsz hb gd
   go_simp
 ·intro L a w' hL hsame hsz hJ AJ hcl
  cases g4
  ·skip
   have hb:=hJ.kept.toBelow (Nat.le_refl _) (by simp)
   have e0:a.eval (.tmp 29)=(.bool false):=AQ (j:=24) (by kernel_rfl) (hJ.valOf (by decide) (AX AJ 24 (by kernel_rfl)) rfl rfl)
   have e1:a.eval (.tmp 34)=undef:=AQ (j:=29) (by kernel_rfl) (hJ.valOf (by decide) (AX AJ 29 (by kernel_rfl)) rfl rfl)
   refine Step.val _ rfl rfl (AV rfl) (.bool g5) w' (fun ρ hρ=>?_) (hJ.val hGS hcl hL rfl (Below.refl _ _) _ rfl)
   rw [hρ] at e0 e1
   have ec0:ρ (.const (.bool false))=(.bool false):=(hρ _).symm
   subst hg5
   clear hJ hsame AJ hcl hρ hsz hb
   go_simp
  ·skip
   have hb:=hJ.kept.toBelow (Nat.le_refl _) (by simp)
   have e0:a.eval (.tmp 29)=(.bool true):=AQ (j:=24) (by kernel_rfl) (hJ.valOf (by decide) (AX AJ 24 (by kernel_rfl)) rfl rfl)
   have e1:a.eval (.tmp 34)=(.bool (p.top==q.top)):=AQ (j:=29) (by kernel_rfl) (hJ.valOf (by decide) (AX AJ 29 (by kernel_rfl)) rfl rfl)
   refine Step.val _ rfl rfl (AV rfl) (.bool g5) w' (fun ρ hρ=>?_) (hJ.val hGS hcl hL rfl (Below.refl _ _) _ rfl)
   rw [hρ] at e0 e1
   have ec0:ρ (.const (.bool false))=(.bool false):=(hρ _).symm
   subst hg5
   clear hJ hsame AJ hcl hρ hsz hb
   go_simp
 ·intro L a w' hL hsame hsz hJ AJ hcl
  refine Ay hJ hGS hcl hL 35 (.bool g5) (.bool g5) (gslot hJ AJ 30 (by kernel_rfl) (by kernel_rfl) (by decide) rfl rfl) _ rfl rfl rfl rfl rfl fun ρ _ e0=>?_
  clear hJ hsame AJ hcl hsz
  go_simp
 ·intro L a w' hL hsame hsz hJ AJ hcl
  cases g5
  ·skip
   have gd:valOf _ 31 a=.bool false:=hJ.valOf (by decide) (AX AJ 31 (by kernel_rfl)) rfl rfl
   exact GStep.pass _ rfl (Al (g:=31) (b:=true) (c:=false) rfl gd (by decide)) (hJ.val hGS hcl hL rfl (Below.refl _ _) _ rfl)
  ·skip
   have gd:valOf _ 31 a=.bool true:=hJ.valOf (by decide) (AX AJ 31 (by kernel_rfl)) rfl rfl
   have hb:=hJ.kept.toBelow (Nat.le_refl _) (by simp)
   have e0:a.eval (.tmp 2)=(.pointer (some ⟨gp,0,none⟩)):=AZ hsame (by kernel_rfl)
   refine Step.val _ rfl rfl (Ag (g:=31) (b:=true) rfl gd) (.pointer (some ⟨gp,7,none⟩)) w' (fun ρ hρ=>?_) (hJ.val hGS hcl hL rfl (Below.refl _ _) _ rfl)
   rw [hρ] at e0
   clear hJ hsame AJ hcl hρ hsz hb gd
   go_simp
 ·intro L a w' hL hsame hsz hJ AJ hcl
  cases g5
  ·skip
   have gd:valOf _ 31 a=.bool false:=hJ.valOf (by decide) (AX AJ 31 (by kernel_rfl)) rfl rfl
   exact GStep.pass _ rfl (Al (g:=31) (b:=true) (c:=false) rfl gd (by decide)) (hJ.val hGS hcl hL rfl (Below.refl _ _) _ rfl)
  ·skip
   have gd:valOf _ 31 a=.bool true:=hJ.valOf (by decide) (AX AJ 31 (by kernel_rfl)) rfl rfl
   have hb:=hJ.kept.toBelow (Nat.le_refl _) (by simp)
   have e0:a.eval (.tmp 37)=(.pointer (some ⟨gp,7,none⟩)):=AQ (j:=32) (by kernel_rfl) (hJ.valOf (by decide) (AX AJ 32 (by kernel_rfl)) rfl rfl)
   have hx:=hJ.Aj (HP.out) (by simp)
   have q0:w'.cell? ⟨gp,7,none⟩=some (.int .i64 p.bot):=hx.cell 7
   refine Step.val _ rfl rfl (Ag (g:=31) (b:=true) rfl gd) (.int .i64 p.bot) w' (fun ρ hρ=>?_) (hJ.val hGS hcl hL rfl (Below.refl _ _) _ rfl)
   clear hx
   rw [hρ] at e0
   clear hJ hsame AJ hcl hρ hsz hb gd
   go_simp
 ·intro L a w' hL hsame hsz hJ AJ hcl
  cases g5
  ·skip
   have gd:valOf _ 31 a=.bool false:=hJ.valOf (by decide) (AX AJ 31 (by kernel_rfl)) rfl rfl
   exact GStep.pass _ rfl (Al (g:=31) (b:=true) (c:=false) rfl gd (by decide)) (hJ.val hGS hcl hL rfl (Below.refl _ _) _ rfl)
  ·skip
   have gd:valOf _ 31 a=.bool true:=hJ.valOf (by decide) (AX AJ 31 (by kernel_rfl)) rfl rfl
   have hb:=hJ.kept.toBelow (Nat.le_refl _) (by simp)
   have e0:a.eval (.tmp 3)=(.pointer (some ⟨gq,0,none⟩)):=AZ hsame (by kernel_rfl)
   refine Step.val _ rfl rfl (Ag (g:=31) (b:=true) rfl gd) (.pointer (some ⟨gq,7,none⟩)) w' (fun ρ hρ=>?_) (hJ.val hGS hcl hL rfl (Below.refl _ _) _ rfl)
   rw [hρ] at e0
   clear hJ hsame AJ hcl hρ hsz hb gd
   go_simp
 ·intro L a w' hL hsame hsz hJ AJ hcl
  cases g5
  ·skip
   have gd:valOf _ 31 a=.bool false:=hJ.valOf (by decide) (AX AJ 31 (by kernel_rfl)) rfl rfl
   exact GStep.pass _ rfl (Al (g:=31) (b:=true) (c:=false) rfl gd (by decide)) (hJ.val hGS hcl hL rfl (Below.refl _ _) _ rfl)
  ·skip
   have gd:valOf _ 31 a=.bool true:=hJ.valOf (by decide) (AX AJ 31 (by kernel_rfl)) rfl rfl
   have hb:=hJ.kept.toBelow (Nat.le_refl _) (by simp)
   have e0:a.eval (.tmp 39)=(.pointer (some ⟨gq,7,none⟩)):=AQ (j:=34) (by kernel_rfl) (hJ.valOf (by decide) (AX AJ 34 (by kernel_rfl)) rfl rfl)
   have hx:=hJ.Aj (HQ.out) (by simp)
   have q0:w'.cell? ⟨gq,7,none⟩=some (.int .i64 q.bot):=hx.cell 7
   refine Step.val _ rfl rfl (Ag (g:=31) (b:=true) rfl gd) (.int .i64 q.bot) w' (fun ρ hρ=>?_) (hJ.val hGS hcl hL rfl (Below.refl _ _) _ rfl)
   clear hx
   rw [hρ] at e0
   clear hJ hsame AJ hcl hρ hsz hb gd
   go_simp
 ·intro L a w' hL hsame hsz hJ AJ hcl
  cases g5
  ·skip
   have gd:valOf _ 31 a=.bool false:=hJ.valOf (by decide) (AX AJ 31 (by kernel_rfl)) rfl rfl
   exact GStep.pass _ rfl (Al (g:=31) (b:=true) (c:=false) rfl gd (by decide)) (hJ.val hGS hcl hL rfl (Below.refl _ _) _ rfl)
  ·skip
   have gd:valOf _ 31 a=.bool true:=hJ.valOf (by decide) (AX AJ 31 (by kernel_rfl)) rfl rfl
   have hb:=hJ.kept.toBelow (Nat.le_refl _) (by simp)
   have e0:a.eval (.tmp 38)=(.int .i64 p.bot):=AQ (j:=33) (by kernel_rfl) (hJ.valOf (by decide) (AX AJ 33 (by kernel_rfl)) rfl rfl)
   have e1:a.eval (.tmp 40)=(.int .i64 q.bot):=AQ (j:=35) (by kernel_rfl) (hJ.valOf (by decide) (AX AJ 35 (by kernel_rfl)) rfl rfl)
   refine Step.val _ rfl rfl (Ag (g:=31) (b:=true) rfl gd) (.bool (p.bot==q.bot)) w' (fun ρ hρ=>?_) (hJ.val hGS hcl hL rfl (Below.refl _ _) _ rfl)
   rw [hρ] at e0 e1
   clear hJ hsame AJ hcl hρ hsz hb gd
   go_simp
 ·intro L a w' hL hsame hsz hJ AJ hcl
  cases g5
  ·skip
   have hb:=hJ.kept.toBelow (Nat.le_refl _) (by simp)
   have e0:a.eval (.tmp 36)=(.bool false):=AQ (j:=31) (by kernel_rfl) (hJ.valOf (by decide) (AX AJ 31 (by kernel_rfl)) rfl rfl)
   have e1:a.eval (.tmp 41)=undef:=AQ (j:=36) (by kernel_rfl) (hJ.valOf (by decide) (AX AJ 36 (by kernel_rfl)) rfl rfl)
   refine Step.val _ rfl rfl (AV rfl) (.bool g6) w' (fun ρ hρ=>?_) (hJ.val hGS hcl hL rfl (Below.refl _ _) _ rfl)
   rw [hρ] at e0 e1
   have ec0:ρ (.const (.bool false))=(.bool false):=(hρ _).symm
   subst hg6
   clear hJ hsame AJ hcl hρ hsz hb
   go_simp
  ·skip
   have hb:=hJ.kept.toBelow (Nat.le_refl _) (by simp)
   have e0:a.eval (.tmp 36)=(.bool true):=AQ (j:=31) (by kernel_rfl) (hJ.valOf (by decide) (AX AJ 31 (by kernel_rfl)) rfl rfl)
   have e1:a.eval (.tmp 41)=(.bool (p.bot==q.bot)):=AQ (j:=36) (by kernel_rfl) (hJ.valOf (by decide) (AX AJ 36 (by kernel_rfl)) rfl rfl)
   refine Step.val _ rfl rfl (AV rfl) (.bool g6) w' (fun ρ hρ=>?_) (hJ.val hGS hcl hL rfl (Below.refl _ _) _ rfl)
   rw [hρ] at e0 e1
   have ec0:ρ (.const (.bool false))=(.bool false):=(hρ _).symm
   subst hg6
   clear hJ hsame AJ hcl hρ hsz hb
   go_simp
 ·intro L a w' hL hsame hsz hJ AJ hcl
  refine Ay hJ hGS hcl hL 42 (.bool g6) (.bool g6) (gslot hJ AJ 37 (by kernel_rfl) (by kernel_rfl) (by decide) rfl rfl) _ rfl rfl rfl rfl rfl fun ρ _ e0=>?_
  clear hJ hsame AJ hcl hsz
  go_simp
 ·intro L a w' hL hsame hsz hJ AJ hcl
  cases g6
  ·skip
   have gd:valOf _ 38 a=.bool false:=hJ.valOf (by decide) (AX AJ 38 (by kernel_rfl)) rfl rfl
   exact GStep.pass _ rfl (Al (g:=38) (b:=true) (c:=false) rfl gd (by decide)) (hJ.val hGS hcl hL rfl (Below.refl _ _) _ rfl)
  ·skip
   have gd:valOf _ 38 a=.bool true:=hJ.valOf (by decide) (AX AJ 38 (by kernel_rfl)) rfl rfl
   have hb:=hJ.kept.toBelow (Nat.le_refl _) (by simp)
   have e0:a.eval (.tmp 2)=(.pointer (some ⟨gp,0,none⟩)):=AZ hsame (by kernel_rfl)
   refine Step.val _ rfl rfl (Ag (g:=38) (b:=true) rfl gd) (.pointer (some ⟨gp,11,none⟩)) w' (fun ρ hρ=>?_) (hJ.val hGS hcl hL rfl (Below.refl _ _) _ rfl)
   rw [hρ] at e0
   clear hJ hsame AJ hcl hρ hsz hb gd
   go_simp
 ·intro L a w' hL hsame hsz hJ AJ hcl
  cases g6
  ·skip
   have gd:valOf _ 38 a=.bool false:=hJ.valOf (by decide) (AX AJ 38 (by kernel_rfl)) rfl rfl
   exact GStep.pass _ rfl (Al (g:=38) (b:=true) (c:=false) rfl gd (by decide)) (hJ.val hGS hcl hL rfl (Below.refl _ _) _ rfl)
  ·skip
   have gd:valOf _ 38 a=.bool true:=hJ.valOf (by decide) (AX AJ 38 (by kernel_rfl)) rfl rfl
   have hb:=hJ.kept.toBelow (Nat.le_refl _) (by simp)
   have e0:a.eval (.tmp 44)=(.pointer (some ⟨gp,11,none⟩)):=AQ (j:=39) (by kernel_rfl) (hJ.valOf (by decide) (AX AJ 39 (by kernel_rfl)) rfl rfl)
   have hx:=hJ.Aj (HP.out) (by simp)
   have q0:w'.cell? ⟨gp,11,none⟩=some (.int .u64 p.tabs):=hx.cell 11
   refine Step.val _ rfl rfl (Ag (g:=38) (b:=true) rfl gd) (.int .u64 p.tabs) w' (fun ρ hρ=>?_) (hJ.val hGS hcl hL rfl (Below.refl _ _) _ rfl)
   clear hx
   rw [hρ] at e0
   clear hJ hsame AJ hcl hρ hsz hb gd
   go_simp
 ·intro L a w' hL hsame hsz hJ AJ hcl
  cases g6
  ·skip
   have gd:valOf _ 38 a=.bool false:=hJ.valOf (by decide) (AX AJ 38 (by kernel_rfl)) rfl rfl
   exact GStep.pass _ rfl (Al (g:=38) (b:=true) (c:=false) rfl gd (by decide)) (hJ.val hGS hcl hL rfl (Below.refl _ _) _ rfl)
  ·skip
   have gd:valOf _ 38 a=.bool true:=hJ.valOf (by decide) (AX AJ 38 (by kernel_rfl)) rfl rfl
   have hb:=hJ.kept.toBelow (Nat.le_refl _) (by simp)
   have e0:a.eval (.tmp 3)=(.pointer (some ⟨gq,0,none⟩)):=AZ hsame (by kernel_rfl)
   refine Step.val _ rfl rfl (Ag (g:=38) (b:=true) rfl gd) (.pointer (some ⟨gq,11,none⟩)) w' (fun ρ hρ=>?_) (hJ.val hGS hcl hL rfl (Below.refl _ _) _ rfl)
   rw [hρ] at e0
   clear hJ hsame AJ hcl hρ hsz hb gd
   go_simp
 ·intro L a w' hL hsame hsz hJ AJ hcl
  cases g6
  ·skip
   have gd:valOf _ 38 a=.bool false:=hJ.valOf (by decide) (AX AJ 38 (by kernel_rfl)) rfl rfl
   exact GStep.pass _ rfl (Al (g:=38) (b:=true) (c:=false) rfl gd (by decide)) (hJ.val hGS hcl hL rfl (Below.refl _ _) _ rfl)
  ·skip
   have gd:valOf _ 38 a=.bool true:=hJ.valOf (by decide) (AX AJ 38 (by kernel_rfl)) rfl rfl
   have hb:=hJ.kept.toBelow (Nat.le_refl _) (by simp)
   have e0:a.eval (.tmp 46)=(.pointer (some ⟨gq,11,none⟩)):=AQ (j:=41) (by kernel_rfl) (hJ.valOf (by decide) (AX AJ 41 (by kernel_rfl)) rfl rfl)
   have hx:=hJ.Aj (HQ.out) (by simp)
   have q0:w'.cell? ⟨gq,11,none⟩=some (.int .u64 q.tabs):=hx.cell 11
   refine Step.val _ rfl rfl (Ag (g:=38) (b:=true) rfl gd) (.int .u64 q.tabs) w' (fun ρ hρ=>?_) (hJ.val hGS hcl hL rfl (Below.refl _ _) _ rfl)
   clear hx
   rw [hρ] at e0
   clear hJ hsame AJ hcl hρ hsz hb gd
   go_simp
 ·intro L a w' hL hsame hsz hJ AJ hcl
  cases g6
  ·skip
   have gd:valOf _ 38 a=.bool false:=hJ.valOf (by decide) (AX AJ 38 (by kernel_rfl)) rfl rfl
   exact GStep.pass _ rfl (Al (g:=38) (b:=true) (c:=false) rfl gd (by decide)) (hJ.val hGS hcl hL rfl (Below.refl _ _) _ rfl)
  ·skip
   have gd:valOf _ 38 a=.bool true:=hJ.valOf (by decide) (AX AJ 38 (by kernel_rfl)) rfl rfl
   have hb:=hJ.kept.toBelow (Nat.le_refl _) (by simp)
   have e0:a.eval (.tmp 45)=(.int .u64 p.tabs):=AQ (j:=40) (by kernel_rfl) (hJ.valOf (by decide) (AX AJ 40 (by kernel_rfl)) rfl rfl)
   have e1:a.eval (.tmp 47)=(.int .u64 q.tabs):=AQ (j:=42) (by kernel_rfl) (hJ.valOf (by decide) (AX AJ 42 (by kernel_rfl)) rfl rfl)
   refine Step.val _ rfl rfl (Ag (g:=38) (b:=true) rfl gd) (.bool ((p.tabs:Int)==(q.tabs:Int))) w' (fun ρ hρ=>?_) (hJ.val hGS hcl hL rfl (Below.refl _ _) _ rfl)
   rw [hρ] at e0 e1
   clear hJ hsame AJ hcl hρ hsz hb gd
   go_simp
 ·intro L a w' hL hsame hsz hJ AJ hcl
  cases g6
  ·skip
   have hb:=hJ.kept.toBelow (Nat.le_refl _) (by simp)
   have e0:a.eval (.tmp 43)=(.bool false):=AQ (j:=38) (by kernel_rfl) (hJ.valOf (by decide) (AX AJ 38 (by kernel_rfl)) rfl rfl)
   have e1:a.eval (.tmp 48)=undef:=AQ (j:=43) (by kernel_rfl) (hJ.valOf (by decide) (AX AJ 43 (by kernel_rfl)) rfl rfl)
   refine Step.val _ rfl rfl (AV rfl) (.bool g7) w' (fun ρ hρ=>?_) (hJ.val hGS hcl hL rfl (Below.refl _ _) _ rfl)
   rw [hρ] at e0 e1
   have ec0:ρ (.const (.bool false))=(.bool false):=(hρ _).symm
   subst hg7
   clear hJ hsame AJ hcl hρ hsz hb
   go_simp
  ·skip
   have hb:=hJ.kept.toBelow (Nat.le_refl _) (by simp)
   have e0:a.eval (.tmp 43)=(.bool true):=AQ (j:=38) (by kernel_rfl) (hJ.valOf (by decide) (AX AJ 38 (by kernel_rfl)) rfl rfl)
   have e1:a.eval (.tmp 48)=(.bool ((p.tabs:Int)==(q.tabs:Int))):=AQ (j:=43) (by kernel_rfl) (hJ.valOf (by decide) (AX AJ 43 (by kernel_rfl)) rfl rfl)
   refine Step.val _ rfl rfl (AV rfl) (.bool g7) w' (fun ρ hρ=>?_) (hJ.val hGS hcl hL rfl (Below.refl _ _) _ rfl)
   rw [hρ] at e0 e1
   have ec0:ρ (.const (.bool false))=(.bool false):=(hρ _).symm
   subst hg7
   clear hJ hsame AJ hcl hρ hsz hb
   go_simp
 ·intro L a w' hL hsame hsz hJ AJ hcl
  refine Ay hJ hGS hcl hL 49 (.bool g7) (.bool g7) (gslot hJ AJ 44 (by kernel_rfl) (by kernel_rfl) (by decide) rfl rfl) _ rfl rfl rfl rfl rfl fun ρ _ e0=>?_
  clear hJ hsame AJ hcl hsz
  go_simp
 ·intro L a w' hL hsame hsz hJ AJ hcl
  cases g7
  ·skip
   have gd:valOf _ 45 a=.bool false:=hJ.valOf (by decide) (AX AJ 45 (by kernel_rfl)) rfl rfl
   exact GStep.pass _ rfl (Al (g:=45) (b:=true) (c:=false) rfl gd (by decide)) (hJ.val hGS hcl hL rfl (Below.refl _ _) _ rfl)
  ·skip
   have gd:valOf _ 45 a=.bool true:=hJ.valOf (by decide) (AX AJ 45 (by kernel_rfl)) rfl rfl
   have hb:=hJ.kept.toBelow (Nat.le_refl _) (by simp)
   have e0:a.eval (.tmp 2)=(.pointer (some ⟨gp,0,none⟩)):=AZ hsame (by kernel_rfl)
   refine Step.val _ rfl rfl (Ag (g:=45) (b:=true) rfl gd) (.pointer (some ⟨gp,15,none⟩)) w' (fun ρ hρ=>?_) (hJ.val hGS hcl hL rfl (Below.refl _ _) _ rfl)
   rw [hρ] at e0
   clear hJ hsame AJ hcl hρ hsz hb gd
   go_simp
 ·intro L a w' hL hsame hsz hJ AJ hcl
  cases g7
  ·skip
   have gd:valOf _ 45 a=.bool false:=hJ.valOf (by decide) (AX AJ 45 (by kernel_rfl)) rfl rfl
   exact GStep.pass _ rfl (Al (g:=45) (b:=true) (c:=false) rfl gd (by decide)) (hJ.val hGS hcl hL rfl (Below.refl _ _) _ rfl)
  ·skip
   have gd:valOf _ 45 a=.bool true:=hJ.valOf (by decide) (AX AJ 45 (by kernel_rfl)) rfl rfl
   have hb:=hJ.kept.toBelow (Nat.le_refl _) (by simp)
   have e0:a.eval (.tmp 51)=(.pointer (some ⟨gp,15,none⟩)):=AQ (j:=46) (by kernel_rfl) (hJ.valOf (by decide) (AX AJ 46 (by kernel_rfl)) rfl rfl)
   have hx:=hJ.Aj (HP.out) (by simp)
   have q0:w'.cell? ⟨gp,15,none⟩=some (.bool p.wrap):=hx.cell 15
   refine Step.val _ rfl rfl (Ag (g:=45) (b:=true) rfl gd) (.bool p.wrap) w' (fun ρ hρ=>?_) (hJ.val hGS hcl hL rfl (Below.refl _ _) _ rfl)
   clear hx
   rw [hρ] at e0
   clear hJ hsame AJ hcl hρ hsz hb gd
   go_simp
 ·intro L a w' hL hsame hsz hJ AJ hcl
  cases g7
  ·skip
   have gd:valOf _ 45 a=.bool false:=hJ.valOf (by decide) (AX AJ 45 (by kernel_rfl)) rfl rfl
   exact GStep.pass _ rfl (Al (g:=45) (b:=true) (c:=false) rfl gd (by decide)) (hJ.val hGS hcl hL rfl (Below.refl _ _) _ rfl)
  ·skip
   have gd:valOf _ 45 a=.bool true:=hJ.valOf (by decide) (AX AJ 45 (by kernel_rfl)) rfl rfl
   have hb:=hJ.kept.toBelow (Nat.le_refl _) (by simp)
   have e0:a.eval (.tmp 3)=(.pointer (some ⟨gq,0,none⟩)):=AZ hsame (by kernel_rfl)
   refine Step.val _ rfl rfl (Ag (g:=45) (b:=true) rfl gd) (.pointer (some ⟨gq,15,none⟩)) w' (fun ρ hρ=>?_) (hJ.val hGS hcl hL rfl (Below.refl _ _) _ rfl)
   rw [hρ] at e0
   clear hJ hsame AJ hcl hρ hsz hb gd
   go_simp
 ·intro L a w' hL hsame hsz hJ AJ hcl
  cases g7
  ·skip
   have gd:valOf _ 45 a=.bool false:=hJ.valOf (by decide) (AX AJ 45 (by kernel_rfl)) rfl rfl
   exact GStep.pass _ rfl (Al (g:=45) (b:=true) (c:=false) rfl gd (by decide)) (hJ.val hGS hcl hL rfl (Below.refl _ _) _ rfl)
  ·skip
   have gd:valOf _ 45 a=.bool true:=hJ.valOf (by decide) (AX AJ 45 (by kernel_rfl)) rfl rfl
   have hb:=hJ.kept.toBelow (Nat.le_refl _) (by simp)
   have e0:a.eval (.tmp 53)=(.pointer (some ⟨gq,15,none⟩)):=AQ (j:=48) (by kernel_rfl) (hJ.valOf (by decide) (AX AJ 48 (by kernel_rfl)) rfl rfl)
   have hx:=hJ.Aj (HQ.out) (by simp)
   have q0:w'.cell? ⟨gq,15,none⟩=some (.bool q.wrap):=hx.cell 15
   refine Step.val _ rfl rfl (Ag (g:=45) (b:=true) rfl gd) (.bool q.wrap) w' (fun ρ hρ=>?_) (hJ.val hGS hcl hL rfl (Below.refl _ _) _ rfl)
   clear hx
   rw [hρ] at e0
   clear hJ hsame AJ hcl hρ hsz hb gd
   go_simp
 ·intro L a w' hL hsame hsz hJ AJ hcl
  cases g7
  ·skip
   have gd:valOf _ 45 a=.bool false:=hJ.valOf (by decide) (AX AJ 45 (by kernel_rfl)) rfl rfl
   exact GStep.pass _ rfl (Al (g:=45) (b:=true) (c:=false) rfl gd (by decide)) (hJ.val hGS hcl hL rfl (Below.refl _ _) _ rfl)
  ·skip
   have gd:valOf _ 45 a=.bool true:=hJ.valOf (by decide) (AX AJ 45 (by kernel_rfl)) rfl rfl
   have hb:=hJ.kept.toBelow (Nat.le_refl _) (by simp)
   have e0:a.eval (.tmp 52)=(.bool p.wrap):=AQ (j:=47) (by kernel_rfl) (hJ.valOf (by decide) (AX AJ 47 (by kernel_rfl)) rfl rfl)
   have e1:a.eval (.tmp 54)=(.bool q.wrap):=AQ (j:=49) (by kernel_rfl) (hJ.valOf (by decide) (AX AJ 49 (by kernel_rfl)) rfl rfl)
   refine Step.val _ rfl rfl (Ag (g:=45) (b:=true) rfl gd) (.bool (p.wrap==q.wrap)) w' (fun ρ hρ=>?_) (hJ.val hGS hcl hL rfl (Below.refl _ _) _ rfl)
   rw [hρ] at e0 e1
   clear hJ hsame AJ hcl hρ hsz hb gd
   go_simp
 ·intro L a w' hL hsame hsz hJ AJ hcl
  cases g7
  ·skip
   have hb:=hJ.kept.toBelow (Nat.le_refl _) (by simp)
   have e0:a.eval (.tmp 50)=(.bool false):=AQ (j:=45) (by kernel_rfl) (hJ.valOf (by decide) (AX AJ 45 (by kernel_rfl)) rfl rfl)
   have e1:a.eval (.tmp 55)=undef:=AQ (j:=50) (by kernel_rfl) (hJ.valOf (by decide) (AX AJ 50 (by kernel_rfl)) rfl rfl)
   refine Step.val _ rfl rfl (AV rfl) (.bool g8) w' (fun ρ hρ=>?_) (hJ.val hGS hcl hL rfl (Below.refl _ _) _ rfl)
   rw [hρ] at e0 e1
   have ec0:ρ (.const (.bool false))=(.bool false):=(hρ _).symm
   subst hg8
   clear hJ hsame AJ hcl hρ hsz hb
   go_simp
  ·skip
   have hb:=hJ.kept.toBelow (Nat.le_refl _) (by simp)
   have e0:a.eval (.tmp 50)=(.bool true):=AQ (j:=45) (by kernel_rfl) (hJ.valOf (by decide) (AX AJ 45 (by kernel_rfl)) rfl rfl)
   have e1:a.eval (.tmp 55)=(.bool (p.wrap==q.wrap)):=AQ (j:=50) (by kernel_rfl) (hJ.valOf (by decide) (AX AJ 50 (by kernel_rfl)) rfl rfl)
   refine Step.val _ rfl rfl (AV rfl) (.bool g8) w' (fun ρ hρ=>?_) (hJ.val hGS hcl hL rfl (Below.refl _ _) _ rfl)
   rw [hρ] at e0 e1
   have ec0:ρ (.const (.bool false))=(.bool false):=(hρ _).symm
   subst hg8
   clear hJ hsame AJ hcl hρ hsz hb
   go_simp
 ·intro L a w' hL hsame hsz hJ AJ hcl
  refine Ay hJ hGS hcl hL 56 (.bool g8) (.bool g8) (gslot hJ AJ 51 (by kernel_rfl) (by kernel_rfl) (by decide) rfl rfl) _ rfl rfl rfl rfl rfl fun ρ _ e0=>?_
  clear hJ hsame AJ hcl hsz
  go_simp
 ·intro L a w' hL hsame hsz hJ AJ hcl
  cases g8
  ·skip
   have gd:valOf _ 52 a=.bool false:=hJ.valOf (by decide) (AX AJ 52 (by kernel_rfl)) rfl rfl
   exact GStep.pass _ rfl (Al (g:=52) (b:=true) (c:=false) rfl gd (by decide)) (hJ.val hGS hcl hL rfl (Below.refl _ _) _ rfl)
  ·skip
   have gd:valOf _ 52 a=.bool true:=hJ.valOf (by decide) (AX AJ 52 (by kernel_rfl)) rfl rfl
   have hb:=hJ.kept.toBelow (Nat.le_refl _) (by simp)
   have e0:a.eval (.tmp 2)=(.pointer (some ⟨gp,0,none⟩)):=AZ hsame (by kernel_rfl)
   refine Step.val _ rfl rfl (Ag (g:=52) (b:=true) rfl gd) (.pointer (some ⟨gp,18,none⟩)) w' (fun ρ hρ=>?_) (hJ.val hGS hcl hL rfl (Below.refl _ _) _ rfl)
   rw [hρ] at e0
   clear hJ hsame AJ hcl hρ hsz hb gd
   go_simp
 ·intro L a w' hL hsame hsz hJ AJ hcl
  cases g8
  ·skip
   have gd:valOf _ 52 a=.bool false:=hJ.valOf (by decide) (AX AJ 52 (by kernel_rfl)) rfl rfl
   exact GStep.pass _ rfl (Al (g:=52) (b:=true) (c:=false) rfl gd (by decide)) (hJ.val hGS hcl hL rfl (Below.refl _ _) _ rfl)
  ·skip
   have gd:valOf _ 52 a=.bool true:=hJ.valOf (by decide) (AX AJ 52 (by kernel_rfl)) rfl rfl
   have hb:=hJ.kept.toBelow (Nat.le_refl _) (by simp)
   have e0:a.eval (.tmp 58)=(.pointer (some ⟨gp,18,none⟩)):=AQ (j:=53) (by kernel_rfl) (hJ.valOf (by decide) (AX AJ 53 (by kernel_rfl)) rfl rfl)
   have hx:=hJ.Aj (HP.out) (by simp)
   have q0:w'.cell? ⟨gp,18,none⟩=some (.bool p.keys):=hx.cell 18
   refine Step.val _ rfl rfl (Ag (g:=52) (b:=true) rfl gd) (.bool p.keys) w' (fun ρ hρ=>?_) (hJ.val hGS hcl hL rfl (Below.refl _ _) _ rfl)
   clear hx
   rw [hρ] at e0
   clear hJ hsame AJ hcl hρ hsz hb gd
   go_simp
 ·intro L a w' hL hsame hsz hJ AJ hcl
  cases g8
  ·skip
   have gd:valOf _ 52 a=.bool false:=hJ.valOf (by decide) (AX AJ 52 (by kernel_rfl)) rfl rfl
   exact GStep.pass _ rfl (Al (g:=52) (b:=true) (c:=false) rfl gd (by decide)) (hJ.val hGS hcl hL rfl (Below.refl _ _) _ rfl)
  ·skip
   have gd:valOf _ 52 a=.bool true:=hJ.valOf (by decide) (AX AJ 52 (by kernel_rfl)) rfl rfl
   have hb:=hJ.kept.toBelow (Nat.le_refl _) (by simp)
   have e0:a.eval (.tmp 3)=(.pointer (some ⟨gq,0,none⟩)):=AZ hsame (by kernel_rfl)
   refine Step.val _ rfl rfl (Ag (g:=52) (b:=true) rfl gd) (.pointer (some ⟨gq,18,none⟩)) w' (fun ρ hρ=>?_) (hJ.val hGS hcl hL rfl (Below.refl _ _) _ rfl)
   rw [hρ] at e0
   clear hJ hsame AJ hcl hρ hsz hb gd
   go_simp
 ·intro L a w' hL hsame hsz hJ AJ hcl
  cases g8
  ·skip
   have gd:valOf _ 52 a=.bool false:=hJ.valOf (by decide) (AX AJ 52 (by kernel_rfl)) rfl rfl
   exact GStep.pass _ rfl (Al (g:=52) (b:=true) (c:=false) rfl gd (by decide)) (hJ.val hGS hcl hL rfl (Below.refl _ _) _ rfl)
  ·skip
   have gd:valOf _ 52 a=.bool true:=hJ.valOf (by decide) (AX AJ 52 (by kernel_rfl)) rfl rfl
   have hb:=hJ.kept.toBelow (Nat.le_refl _) (by simp)
   have e0:a.eval (.tmp 60)=(.pointer (some ⟨gq,18,none⟩)):=AQ (j:=55) (by kernel_rfl) (hJ.valOf (by decide) (AX AJ 55 (by kernel_rfl)) rfl rfl)
   have hx:=hJ.Aj (HQ.out) (by simp)
   have q0:w'.cell? ⟨gq,18,none⟩=some (.bool q.keys):=hx.cell 18
   refine Step.val _ rfl rfl (Ag (g:=52) (b:=true) rfl gd) (.bool q.keys) w' (fun ρ hρ=>?_) (hJ.val hGS hcl hL rfl (Below.refl _ _) _ rfl)
   clear hx
   rw [hρ] at e0
   clear hJ hsame AJ hcl hρ hsz hb gd
   go_simp
 ·intro L a w' hL hsame hsz hJ AJ hcl
  cases g8
  ·skip
   have gd:valOf _ 52 a=.bool false:=hJ.valOf (by decide) (AX AJ 52 (by kernel_rfl)) rfl rfl
   exact GStep.pass _ rfl (Al (g:=52) (b:=true) (c:=false) rfl gd (by decide)) (hJ.val hGS hcl hL rfl (Below.refl _ _) _ rfl)
  ·skip
   have gd:valOf _ 52 a=.bool true:=hJ.valOf (by decide) (AX AJ 52 (by kernel_rfl)) rfl rfl
   have hb:=hJ.kept.toBelow (Nat.le_refl _) (by simp)
   have e0:a.eval (.tmp 59)=(.bool p.keys):=AQ (j:=54) (by kernel_rfl) (hJ.valOf (by decide) (AX AJ 54 (by kernel_rfl)) rfl rfl)
   have e1:a.eval (.tmp 61)=(.bool q.keys):=AQ (j:=56) (by kernel_rfl) (hJ.valOf (by decide) (AX AJ 56 (by kernel_rfl)) rfl rfl)
   refine Step.val _ rfl rfl (Ag (g:=52) (b:=true) rfl gd) (.bool (p.keys==q.keys)) w' (fun ρ hρ=>?_) (hJ.val hGS hcl hL rfl (Below.refl _ _) _ rfl)
   rw [hρ] at e0 e1
   clear hJ hsame AJ hcl hρ hsz hb gd
   go_simp
 ·intro L a w' hL hsame hsz hJ AJ hcl
  cases g8
  ·skip
   have hb:=hJ.kept.toBelow (Nat.le_refl _) (by simp)
   have e0:a.eval (.tmp 57)=(.bool false):=AQ (j:=52) (by kernel_rfl) (hJ.valOf (by decide) (AX AJ 52 (by kernel_rfl)) rfl rfl)
   have e1:a.eval (.tmp 62)=undef:=AQ (j:=57) (by kernel_rfl) (hJ.valOf (by decide) (AX AJ 57 (by kernel_rfl)) rfl rfl)
   refine Step.val _ rfl rfl (AV rfl) (.bool g9) w' (fun ρ hρ=>?_) (hJ.val hGS hcl hL rfl (Below.refl _ _) _ rfl)
   rw [hρ] at e0 e1
   have ec0:ρ (.const (.bool false))=(.bool false):=(hρ _).symm
   subst hg9
   clear hJ hsame AJ hcl hρ hsz hb
   go_simp
  ·skip
   have hb:=hJ.kept.toBelow (Nat.le_refl _) (by simp)
   have e0:a.eval (.tmp 57)=(.bool true):=AQ (j:=52) (by kernel_rfl) (hJ.valOf (by decide) (AX AJ 52 (by kernel_rfl)) rfl rfl)
   have e1:a.eval (.tmp 62)=(.bool (p.keys==q.keys)):=AQ (j:=57) (by kernel_rfl) (hJ.valOf (by decide) (AX AJ 57 (by kernel_rfl)) rfl rfl)
   refine Step.val _ rfl rfl (AV rfl) (.bool g9) w' (fun ρ hρ=>?_) (hJ.val hGS hcl hL rfl (Below.refl _ _) _ rfl)
   rw [hρ] at e0 e1
   have ec0:ρ (.const (.bool false))=(.bool false):=(hρ _).symm
   subst hg9
   clear hJ hsame AJ hcl hρ hsz hb
   go_simp
 ·intro L a w' hL hsame hsz hJ AJ hcl
  refine Ay hJ hGS hcl hL 63 (.bool g9) (.bool g9) (gslot hJ AJ 58 (by kernel_rfl) (by kernel_rfl) (by decide) rfl rfl) _ rfl rfl rfl rfl rfl fun ρ _ e0=>?_
  clear hJ hsame AJ hcl hsz
  go_simp
 ·intro L a w' hL hsame hsz hJ AJ hcl
  cases g9
  ·skip
   have gd:valOf _ 59 a=.bool false:=hJ.valOf (by decide) (AX AJ 59 (by kernel_rfl)) rfl rfl
   exact GStep.pass _ rfl (Al (g:=59) (b:=true) (c:=false) rfl gd (by decide)) (hJ.val hGS hcl hL rfl (Below.refl _ _) _ rfl)
  ·skip
   have gd:valOf _ 59 a=.bool true:=hJ.valOf (by decide) (AX AJ 59 (by kernel_rfl)) rfl rfl
   have hb:=hJ.kept.toBelow (Nat.le_refl _) (by simp)
   have e0:a.eval (.tmp 2)=(.pointer (some ⟨gp,0,none⟩)):=AZ hsame (by kernel_rfl)
   refine Step.val _ rfl rfl (Ag (g:=59) (b:=true) rfl gd) (.pointer (some ⟨gp,19,none⟩)) w' (fun ρ hρ=>?_) (hJ.val hGS hcl hL rfl (Below.refl _ _) _ rfl)
   rw [hρ] at e0
   clear hJ hsame AJ hcl hρ hsz hb gd
   go_simp
 ·intro L a w' hL hsame hsz hJ AJ hcl
  cases g9
  ·skip
   have gd:valOf _ 59 a=.bool false:=hJ.valOf (by decide) (AX AJ 59 (by kernel_rfl)) rfl rfl
   exact GStep.pass _ rfl (Al (g:=59) (b:=true) (c:=false) rfl gd (by decide)) (hJ.val hGS hcl hL rfl (Below.refl _ _) _ rfl)
  ·skip
   have gd:valOf _ 59 a=.bool true:=hJ.valOf (by decide) (AX AJ 59 (by kernel_rfl)) rfl rfl
   have hb:=hJ.kept.toBelow (Nat.le_refl _) (by simp)
   have e0:a.eval (.tmp 65)=(.pointer (some ⟨gp,19,none⟩)):=AQ (j:=60) (by kernel_rfl) (hJ.valOf (by decide) (AX AJ 60 (by kernel_rfl)) rfl rfl)
   have hx:=hJ.Aj (HP.out) (by simp)
   have q0:w'.cell? ⟨gp,19,none⟩=some (.bool p.pad):=hx.cell 19
   refine Step.val _ rfl rfl (Ag (g:=59) (b:=true) rfl gd) (.bool p.pad) w' (fun ρ hρ=>?_) (hJ.val hGS hcl hL rfl (Below.refl _ _) _ rfl)
   clear hx
   rw [hρ] at e0
   clear hJ hsame AJ hcl hρ hsz hb gd
   go_simp
 ·intro L a w' hL hsame hsz hJ AJ hcl
  cases g9
  ·skip
   have gd:valOf _ 59 a=.bool false:=hJ.valOf (by decide) (AX AJ 59 (by kernel_rfl)) rfl rfl
   exact GStep.pass _ rfl (Al (g:=59) (b:=true) (c:=false) rfl gd (by decide)) (hJ.val hGS hcl hL rfl (Below.refl _ _) _ rfl)
  ·skip
   have gd:valOf _ 59 a=.bool true:=hJ.valOf (by decide) (AX AJ 59 (by kernel_rfl)) rfl rfl
   have hb:=hJ.kept.toBelow (Nat.le_refl _) (by simp)
   have e0:a.eval (.tmp 3)=(.pointer (some ⟨gq,0,none⟩)):=AZ hsame (by kernel_rfl)
   refine Step.val _ rfl rfl (Ag (g:=59) (b:=true) rfl gd) (.pointer (some ⟨gq,19,none⟩)) w' (fun ρ hρ=>?_) (hJ.val hGS hcl hL rfl (Below.refl _ _) _ rfl)
   rw [hρ] at e0
   clear hJ hsame AJ hcl hρ hsz hb gd
   go_simp
 ·intro L a w' hL hsame hsz hJ AJ hcl
  cases g9
  ·skip
   have gd:valOf _ 59 a=.bool false:=hJ.valOf (by decide) (AX AJ 59 (by kernel_rfl)) rfl rfl
   exact GStep.pass _ rfl (Al (g:=59) (b:=true) (c:=false) rfl gd (by decide)) (hJ.val hGS hcl hL rfl (Below.refl _ _) _ rfl)
  ·skip
   have gd:valOf _ 59 a=.bool true:=hJ.valOf (by decide) (AX AJ 59 (by kernel_rfl)) rfl rfl
   have hb:=hJ.kept.toBelow (Nat.le_refl _) (by simp)
   have e0:a.eval (.tmp 67)=(.pointer (some ⟨gq,19,none⟩)):=AQ (j:=62) (by kernel_rfl) (hJ.valOf (by decide) (AX AJ 62 (by kernel_rfl)) rfl rfl)
   have hx:=hJ.Aj (HQ.out) (by simp)
   have q0:w'.cell? ⟨gq,19,none⟩=some (.bool q.pad):=hx.cell 19
   refine Step.val _ rfl rfl (Ag (g:=59) (b:=true) rfl gd) (.bool q.pad) w' (fun ρ hρ=>?_) (hJ.val hGS hcl hL rfl (Below.refl _ _) _ rfl)
   clear hx
   rw [hρ] at e0
   clear hJ hsame AJ hcl hρ hsz hb gd
   go_simp
 ·intro L a w' hL hsame hsz hJ AJ hcl
  cases g9
  ·skip
   have gd:valOf _ 59 a=.bool false:=hJ.valOf (by decide) (AX AJ 59 (by kernel_rfl)) rfl rfl
   exact GStep.pass _ rfl (Al (g:=59) (b:=true) (c:=false) rfl gd (by decide)) (hJ.val hGS hcl hL rfl (Below.refl _ _) _ rfl)
  ·skip
   have gd:valOf _ 59 a=.bool true:=hJ.valOf (by decide) (AX AJ 59 (by kernel_rfl)) rfl rfl
   have hb:=hJ.kept.toBelow (Nat.le_refl _) (by simp)
   have e0:a.eval (.tmp 66)=(.bool p.pad):=AQ (j:=61) (by kernel_rfl) (hJ.valOf (by decide) (AX AJ 61 (by kernel_rfl)) rfl rfl)
   have e1:a.eval (.tmp 68)=(.bool q.pad):=AQ (j:=63) (by kernel_rfl) (hJ.valOf (by decide) (AX AJ 63 (by kernel_rfl)) rfl rfl)
   refine Step.val _ rfl rfl (Ag (g:=59) (b:=true) rfl gd) (.bool (p.pad==q.pad)) w' (fun ρ hρ=>?_) (hJ.val hGS hcl hL rfl (Below.refl _ _) _ rfl)
   rw [hρ] at e0 e1
   clear hJ hsame AJ hcl hρ hsz hb gd
   go_simp
 ·intro L a w' hL hsame hsz hJ AJ hcl
  cases g9
  ·skip
   have hb:=hJ.kept.toBelow (Nat.le_refl _) (by simp)
   have e0:a.eval (.tmp 64)=(.bool false):=AQ (j:=59) (by kernel_rfl) (hJ.valOf (by decide) (AX AJ 59 (by kernel_rfl)) rfl rfl)
   have e1:a.eval (.tmp 69)=undef:=AQ (j:=64) (by kernel_rfl) (hJ.valOf (by decide) (AX AJ 64 (by kernel_rfl)) rfl rfl)
   refine Step.val _ rfl rfl (AV rfl) (.bool g10) w' (fun ρ hρ=>?_) (hJ.val hGS hcl hL rfl (Below.refl _ _) _ rfl)
   rw [hρ] at e0 e1
   have ec0:ρ (.const (.bool false))=(.bool false):=(hρ _).symm
   subst hg10
   clear hJ hsame AJ hcl hρ hsz hb
   go_simp
  ·skip
   have hb:=hJ.kept.toBelow (Nat.le_refl _) (by simp)
   have e0:a.eval (.tmp 64)=(.bool true):=AQ (j:=59) (by kernel_rfl) (hJ.valOf (by decide) (AX AJ 59 (by kernel_rfl)) rfl rfl)
   have e1:a.eval (.tmp 69)=(.bool (p.pad==q.pad)):=AQ (j:=64) (by kernel_rfl) (hJ.valOf (by decide) (AX AJ 64 (by kernel_rfl)) rfl rfl)
   refine Step.val _ rfl rfl (AV rfl) (.bool g10) w' (fun ρ hρ=>?_) (hJ.val hGS hcl hL rfl (Below.refl _ _) _ rfl)
   rw [hρ] at e0 e1
   have ec0:ρ (.const (.bool false))=(.bool false):=(hρ _).symm
   subst hg10
   clear hJ hsame AJ hcl hρ hsz hb
   go_simp
 ·intro L a w' hL hsame hsz hJ AJ hcl
  refine Ay hJ hGS hcl hL 70 (.bool g10) (.bool g10) (gslot hJ AJ 65 (by kernel_rfl) (by kernel_rfl) (by decide) rfl rfl) _ rfl rfl rfl rfl rfl fun ρ _ e0=>?_
  clear hJ hsame AJ hcl hsz
  go_simp
 ·intro u w' hF
  change Exit.then _ _ Exit.normal (Act.put (Act.put (Act.put (Act.put (Act.put (Act.put (Act.put (Act.put (Act.put (Act.put (Act.put (Act.put (Act.put (Act.put (Act.put (Act.put (Act.put (Act.put (Act.put (Act.put (Act.put (Act.put (Act.put (Act.put (Act.put (Act.put (Act.put (Act.put (Act.put (Act.put (Act.put (Act.put (Act.put (Act.put (Act.put (Act.put (Act.put (Act.put (Act.put (Act.put (Act.put (Act.put (Act.put (Act.put (Act.put (Act.put (Act.put (Act.put (Act.put (Act.put (Act.put (Act.put (Act.put (Act.put (Act.put (Act.put (Act.put (Act.put (Act.put (Act.put (Act.put (Act.put (Act.put (Act.put (Act.put (Act.put (Act.put (BD _ u 0 _) (some 5) (u 0)) (some 6) (u 1)) (some 7) (u 2)) (some 8) (u 3)) (some 9) (u 4)) (some 10) (u 5)) (some 11) (u 6)) (some 12) (u 7)) (some 13) (u 8)) (some 14) (u 9)) (some 15) (u 10)) (some 16) (u 11)) (some 17) (u 12)) (some 18) (u 13)) (some 19) (u 14)) (some 20) (u 15)) (some 21) (u 16)) (some 22) (u 17)) (some 23) (u 18)) (some 24) (u 19)) (some 25) (u 20)) (some 26) (u 21)) (some 27) (u 22)) (some 28) (u 23)) (some 29) (u 24)) (some 30) (u 25)) (some 31) (u 26)) (some 32) (u 27)) (some 33) (u 28)) (some 34) (u 29)) (some 35) (u 30)) (some 36) (u 31)) (some 37) (u 32)) (some 38) (u 33)) (some 39) (u 34)) (some 40) (u 35)) (some 41) (u 36)) (some 42) (u 37)) (some 43) (u 38)) (some 44) (u 39)) (some 45) (u 40)) (some 46) (u 41)) (some 47) (u 42)) (some 48) (u 43)) (some 49) (u 44)) (some 50) (u 45)) (some 51) (u 46)) (some 52) (u 47)) (some 53) (u 48)) (some 54) (u 49)) (some 55) (u 50)) (some 56) (u 51)) (some 57) (u 52)) (some 58) (u 53)) (some 59) (u 54)) (some 60) (u 55)) (some 61) (u 56)) (some 62) (u 57)) (some 63) (u 58)) (some 64) (u 59)) (some 65) (u 60)) (some 66) (u 61)) (some 67) (u 62)) (some 68) (u 63)) (some 69) (u 64)) (some 70) (u 65)) (some 4) (u 66)) _
  simp only [BD]
  have f:u 66=.bool g10:=hF.Qa (j:=66) (by decide) rfl rfl
  have hk:=hF.kept.toBelow (Nat.le_refl _) (by simp)
  clear hF
  generalize u 0=z0
  generalize u 1=z1
  generalize u 2=z2
  generalize u 3=z3
  generalize u 4=z4
  generalize u 5=z5
  generalize u 6=z6
  generalize u 7=z7
  generalize u 8=z8
  generalize u 9=z9
  generalize u 10=z10
  generalize u 11=z11
  generalize u 12=z12
  generalize u 13=z13
  generalize u 14=z14
  generalize u 15=z15
  generalize u 16=z16
  generalize u 17=z17
  generalize u 18=z18
  generalize u 19=z19
  generalize u 20=z20
  generalize u 21=z21
  generalize u 22=z22
  generalize u 23=z23
  generalize u 24=z24
  generalize u 25=z25
  generalize u 26=z26
  generalize u 27=z27
  generalize u 28=z28
  generalize u 29=z29
  generalize u 30=z30
  generalize u 31=z31
  generalize u 32=z32
  generalize u 33=z33
  generalize u 34=z34
  generalize u 35=z35
  generalize u 36=z36
  generalize u 37=z37
  generalize u 38=z38
  generalize u 39=z39
  generalize u 40=z40
  generalize u 41=z41
  generalize u 42=z42
  generalize u 43=z43
  generalize u 44=z44
  generalize u 45=z45
  generalize u 46=z46
  generalize u 47=z47
  generalize u 48=z48
  generalize u 49=z49
  generalize u 50=z50
  generalize u 51=z51
  generalize u 52=z52
  generalize u 53=z53
  generalize u 54=z54
  generalize u 55=z55
  generalize u 56=z56
  generalize u 57=z57
  generalize u 58=z58
  generalize u 59=z59
  generalize u 60=z60
  generalize u 61=z61
  generalize u 62=z62
  generalize u 63=z63
  generalize u 64=z64
  generalize u 65=z65
  generalize u 66=z66 at f⊢
  subst f
  go_simp
  go_step
  refine wp_ret ?_
  (try simp only [Exit.then,Exit.inBlock])
  refine bodyPost_ret (v:=.bool g10) (by simp [results,Tryz.results23,go_sem]) rfl ⟨?_,HW.out.trans (hk.mono HW.out.size)⟩
  subst hg2 hg3 hg4 hg5 hg6 hg7 hg8 hg9 hg10
  simp only [Bool.and_assoc]
end Go.Proofs.YtoaabebgmdbjeaaGreatDoor
