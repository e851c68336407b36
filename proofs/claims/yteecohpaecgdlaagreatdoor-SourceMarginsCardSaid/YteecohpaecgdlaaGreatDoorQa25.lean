/- A part of the proof: SourceUse, SourceRuns. -/
import Derived.Test.YteecohpaecgdlaaGreatDoorQa24
set_option maxRecDepth 100000
set_option maxHeartbeats 16000000
set_option linter.unusedVariables false
namespace Go.Proofs.YteecohpaecgdlaaGreatDoor
open Go Go.RowKit
theorem qR (s t:SN.Sc) (v:Value) (rn pv it fn:Int) (Ae:Option Addr) (n c B:Nat) (tx:ByteArray) (l:List Int) (w:World) (hs:SN.Ad s) (hl:Seen w B Ae n (l.map (Value.int .i64))) (hB:B<=w.heap.size) (hn:n<=100) (hnc:n<=c) (hlb: ∀x∈l, -1<=x/\x<=65535) (hr:0<=rn/\rn<=1114111) (hT:Gb w) (ht:SN.KU s rn=t) (h:IsS w s v):Calls Tryz.prog 57 #[v,.agg #[.int .i64 1,.int .i32 rn,.int .u8 pv,.int .u8 it,.int .u8 fn,.slice Ae n c,.string tx]] w (Ay w t):=by
 obtain⟨x,rfl,hg⟩:=h
 obtain⟨A,cp,rfl⟩:=Af hg
 have HG:=hide hg
 have hgr:=hs.g.2.1
 have hgc:=hs.g.2.2.2.1
 have hR1:=hs.g.1
 have hK1:=hs.g.2.2.1
 have hrow:=hs.row
 have CF:=hs.col
 have AT:=hide (fun w' v' (hb:Below w.heap.size w w') h=>(show Calls Tryz.prog 30 #[v',.int .i32 rn] w' (Ay w' t) from ht▸Y3 s v' rn w' hs hr.1 hr.2 (hT.keep hb) h))
 clear ht hs hg hl hlb hT
 go_enter Tryz.func57,Tryz.ntmps57
 go_upto_region 1 with (refine Dj HG _ rfl rfl rfl _ rfl rfl (fun _=>rfl) rfl rfl ?_;intro g gE gR w2 csR hsR HB2 HE2 HW2 HR2 HG2 hne FY FZ hg1 Ai)
 clear HG
 obtain⟨e0,e1,e2,e3,e4,e5,e6⟩:=HE2.out.Bn
 go_wp2_with (refine AX HB2.out rfl _ rfl rfl ?_)
 refine(AT.out _ _ HW2.out ⟨_,rfl,HG2.out⟩).mono (Au HR2 HW2 fun A7 c7 w7 HR7 HW7 HG7=>?_)
 clear e0 e1 e2 e3 e4 e5 e6
 clear HB2 HR2 HW2 HG2 HE2
 go_wp2_with (refine AQ HR7.out hsR rfl _ _ rfl rfl rfl rfl ?_;intro w8 hB8 hk8 hs8)
 exact BQ rfl rfl rfl hB8 HG7 HR7 HW7 hk8 Ai
theorem qU (s t:SN.Sc) (v:Value) (rn pv it fn:Int) (Ae:Option Addr) (n c B:Nat) (tx:ByteArray) (l:List Int) (w:World) (hs:SN.Ad s) (hl:Seen w B Ae n (l.map (Value.int .i64))) (hB:B<=w.heap.size) (hn:n<=100) (hnc:n<=c) (hlb: ∀x∈l, -1<=x/\x<=65535) (hT:Gb w) (ht:SN.GI s fn=t) (h:IsS w s v):Calls Tryz.prog 57 #[v,.agg #[.int .i64 2,.int .i32 rn,.int .u8 pv,.int .u8 it,.int .u8 fn,.slice Ae n c,.string tx]] w (Ay w t):=by
 obtain⟨x,rfl,hg⟩:=h
 obtain⟨A,cp,rfl⟩:=Af hg
 have HG:=hide hg
 have hgr:=hs.g.2.1
 have hgc:=hs.g.2.2.2.1
 have hR1:=hs.g.1
 have hK1:=hs.g.2.2.1
 have hrow:=hs.row
 have CF:=hs.col
 have AT:=hide (fun w' v' (hb:Below w.heap.size w w') h=>(show Calls Tryz.prog 94 #[v',.int .u8 fn] w' (Ay w' t) from ht▸eY s v' fn w' hs (hT.uO.keep hb) h))
 clear ht hs hg hl hlb hT
 go_enter Tryz.func57,Tryz.ntmps57
 go_upto_region 1 with (refine Dj HG _ rfl rfl rfl _ rfl rfl (fun _=>rfl) rfl rfl ?_;intro g gE gR w2 csR hsR HB2 HE2 HW2 HR2 HG2 hne FY FZ hg1 Ai)
 clear HG
 obtain⟨e0,e1,e2,e3,e4,e5,e6⟩:=HE2.out.Bn
 go_wp2_with (refine AX HB2.out rfl _ rfl rfl ?_)
 refine(AT.out _ _ HW2.out ⟨_,rfl,HG2.out⟩).mono (Au HR2 HW2 fun A7 c7 w7 HR7 HW7 HG7=>?_)
 clear e0 e1 e2 e3 e4 e5 e6
 clear HB2 HR2 HW2 HG2 HE2
 go_wp2_with (refine AQ HR7.out hsR rfl _ _ rfl rfl rfl rfl ?_;intro w8 hB8 hk8 hs8)
 exact BQ rfl rfl rfl hB8 HG7 HR7 HW7 hk8 Ai
theorem qV (s t:SN.Sc) (v:Value) (rn pv it fn:Int) (Ae:Option Addr) (n c B:Nat) (tx:ByteArray) (l:List Int) (w:World) (hs:SN.Ad s) (hl:Seen w B Ae n (l.map (Value.int .i64))) (hB:B<=w.heap.size) (hn:n<=100) (hnc:n<=c) (hlb: ∀x∈l, -1<=x/\x<=65535) (hT:Gb w) (ht:SN.Fg s it fn=t) (h:IsS w s v):Calls Tryz.prog 57 #[v,.agg #[.int .i64 3,.int .i32 rn,.int .u8 pv,.int .u8 it,.int .u8 fn,.slice Ae n c,.string tx]] w (Ay w t):=by
 obtain⟨x,rfl,hg⟩:=h
 obtain⟨A,cp,rfl⟩:=Af hg
 have HG:=hide hg
 have hgr:=hs.g.2.1
 have hgc:=hs.g.2.2.2.1
 have hR1:=hs.g.1
 have hK1:=hs.g.2.2.1
 have hrow:=hs.row
 have CF:=hs.col
 have AT:=hide (fun w' v' (hb:Below w.heap.size w w') h=>(show Calls Tryz.prog 95 #[v',.agg #[.int .i64 3,.int .i32 rn,.int .u8 pv,.int .u8 it,.int .u8 fn,.slice Ae n c,.string tx]] w' (Ay w' t) from ht▸lZ s v' 3 rn pv it fn Ae n c tx w' hs h))
 clear ht hs hg hl hlb hT
 go_enter Tryz.func57,Tryz.ntmps57
 go_upto_region 1 with (refine Dj HG _ rfl rfl rfl _ rfl rfl (fun _=>rfl) rfl rfl ?_;intro g gE gR w2 csR hsR HB2 HE2 HW2 HR2 HG2 hne FY FZ hg1 Ai)
 clear HG
 obtain⟨e0,e1,e2,e3,e4,e5,e6⟩:=HE2.out.Bn
 go_wp2_with (refine AX HB2.out rfl _ rfl rfl ?_)
 refine(AT.out _ _ HW2.out ⟨_,rfl,HG2.out⟩).mono (Au HR2 HW2 fun A7 c7 w7 HR7 HW7 HG7=>?_)
 clear e0 e1 e2 e3 e4 e5 e6
 clear HB2 HR2 HW2 HG2 HE2
 go_wp2_with (refine AQ HR7.out hsR rfl _ _ rfl rfl rfl rfl ?_;intro w8 hB8 hk8 hs8)
 exact BQ rfl rfl rfl hB8 HG7 HR7 HW7 hk8 Ai
theorem qW (s t:SN.Sc) (v:Value) (rn pv it fn:Int) (Ae:Option Addr) (n c B:Nat) (tx:ByteArray) (l:List Int) (w:World) (hs:SN.Ad s) (hl:Seen w B Ae n (l.map (Value.int .i64))) (hB:B<=w.heap.size) (hn:n<=100) (hnc:n<=c) (hlb: ∀x∈l, -1<=x/\x<=65535) (hT:Gb w) (ht:SN.Rx s pv it fn l=t) (h:IsS w s v):Calls Tryz.prog 57 #[v,.agg #[.int .i64 4,.int .i32 rn,.int .u8 pv,.int .u8 it,.int .u8 fn,.slice Ae n c,.string tx]] w (Ay w t):=by
 obtain⟨x,rfl,hg⟩:=h
 obtain⟨A,cp,rfl⟩:=Af hg
 have HG:=hide hg
 have hgr:=hs.g.2.1
 have hgc:=hs.g.2.2.2.1
 have hR1:=hs.g.1
 have hK1:=hs.g.2.2.1
 have hrow:=hs.row
 have CF:=hs.col
 have AT:=hide (fun w' v' (hb:Below w.heap.size w w') h=>(show Calls Tryz.prog 96 #[v',.agg #[.int .i64 4,.int .i32 rn,.int .u8 pv,.int .u8 it,.int .u8 fn,.slice Ae n c,.string tx]] w' (Ay w' t) from ht▸l6 s v' 4 rn pv it fn Ae n c B tx l w' hs (hl.below (hb.mono hB)) (Nat.le_trans hB hb.size) hn hnc hlb (hT.flags.keep hb) h))
 clear ht hs hg hl hlb hT
 go_enter Tryz.func57,Tryz.ntmps57
 go_upto_region 1 with (refine Dj HG _ rfl rfl rfl _ rfl rfl (fun _=>rfl) rfl rfl ?_;intro g gE gR w2 csR hsR HB2 HE2 HW2 HR2 HG2 hne FY FZ hg1 Ai)
 clear HG
 obtain⟨e0,e1,e2,e3,e4,e5,e6⟩:=HE2.out.Bn
 go_wp2_with (refine AX HB2.out rfl _ rfl rfl ?_)
 refine(AT.out _ _ HW2.out ⟨_,rfl,HG2.out⟩).mono (Au HR2 HW2 fun A7 c7 w7 HR7 HW7 HG7=>?_)
 clear e0 e1 e2 e3 e4 e5 e6
 clear HB2 HR2 HW2 HG2 HE2
 go_wp2_with (refine AQ HR7.out hsR rfl _ _ rfl rfl rfl rfl ?_;intro w8 hB8 hk8 hs8)
 exact BQ rfl rfl rfl hB8 HG7 HR7 HW7 hk8 Ai
theorem l7 (s t:SN.Sc) (v:Value) (kd rn pv it fn:Int) (Ae:Option Addr) (n c B:Nat) (tx:ByteArray) (l:List Int) (w:World) (hs:SN.Ad s) (hl:Seen w B Ae n (l.map (Value.int .i64))) (hB:B<=w.heap.size) (hn:n<=100) (hnc:n<=c) (hlb: ∀x∈l, -1<=x/\x<=65535) (hk:kd≠1/\kd≠2/\kd≠3/\kd≠4) (hT:Gb w) (ht:s=t) (h:IsS w s v):Calls Tryz.prog 57 #[v,.agg #[.int .i64 kd,.int .i32 rn,.int .u8 pv,.int .u8 it,.int .u8 fn,.slice Ae n c,.string tx]] w (Ay w t):=by
 obtain⟨x,rfl,hg⟩:=h
 obtain⟨A,cp,rfl⟩:=Af hg
 have HG:=hide hg
 have hgr:=hs.g.2.1
 have hgc:=hs.g.2.2.2.1
 have hR1:=hs.g.1
 have hK1:=hs.g.2.2.1
 have hrow:=hs.row
 have CF:=hs.col
 have q1:(kd==1)=false:=by simp;omega
 have q2:(kd==2)=false:=by simp;omega
 have q3:(kd==3)=false:=by simp;omega
 have q4:(kd==4)=false:=by simp;omega
 clear hk
 subst ht
 clear hs hg hl hlb hT
 go_enter Tryz.func57,Tryz.ntmps57
 go_upto_region 1 with (refine Dj HG _ rfl rfl rfl _ rfl rfl (fun _=>rfl) rfl rfl ?_;intro g gE gR w2 csR hsR HB2 HE2 HW2 HR2 HG2 hne FY FZ hg1 Ai)
 clear HG
 obtain⟨e0,e1,e2,e3,e4,e5,e6⟩:=HE2.out.Bn
 go_wp2_with (first | (refine AX HB2.out rfl _ rfl rfl ?_) | (refine AQ HR2.out hsR rfl _ _ rfl rfl rfl rfl ?_;intro w8 hB8 hk8 hs8))
 exact BQ rfl rfl rfl hB8 HG2 HR2 HW2 hk8 Ai
theorem l8 (s:SN.Sc) (v:Value) (kd rn pv it fn:Int) (Ae:Option Addr) (n c B:Nat) (tx:ByteArray) (l:List Int) (w:World) (hs:SN.Ad s) (hl:Seen w B Ae n (l.map (Value.int .i64))) (hB:B<=w.heap.size) (hn:n<=100) (hnc:n<=c) (hlb: ∀x∈l, -1<=x/\x<=65535) (hr:kd=1->0<=rn/\rn<=1114111) (hT:Gb w) (h:IsS w s v):Calls Tryz.prog 57 #[v,.agg #[.int .i64 kd,.int .i32 rn,.int .u8 pv,.int .u8 it,.int .u8 fn,.slice Ae n c,.string tx]] w (Ay w (SN.doS s kd rn pv it fn l)):=by
 unfold SN.doS
 by_cases h1:kd=1
 ·subst h1
  rw [if_pos rfl]
  exact qR s _ v rn pv it fn Ae n c B tx l w hs hl hB hn hnc hlb (hr rfl) hT rfl h
 rw [if_neg h1]
 by_cases h2:kd=2
 ·subst h2
  rw [if_pos rfl]
  exact qU s _ v rn pv it fn Ae n c B tx l w hs hl hB hn hnc hlb hT rfl h
 rw [if_neg h2]
 by_cases h3:kd=3
 ·subst h3
  rw [if_pos rfl]
  exact qV s _ v rn pv it fn Ae n c B tx l w hs hl hB hn hnc hlb hT rfl h
 rw [if_neg h3]
 by_cases h4:kd=4
 ·subst h4
  rw [if_pos rfl]
  exact qW s _ v rn pv it fn Ae n c B tx l w hs hl hB hn hnc hlb hT rfl h
 rw [if_neg h4]
 exact l7 s _ v kd rn pv it fn Ae n c B tx l w hs hl hB hn hnc hlb ⟨h1,h2,h3,h4⟩ hT rfl h
def TL (v:Value):Prop:= ∀A k c,v=.slice A k c->k<=c
theorem fF {A:Option Addr} {k c:Nat} (h:k<=c):TL (.slice A k c):=fun _ _ _ e=>by
 cases e
 exact h
theorem SN.fG (s:SN.Sc) {M:List (PA.Ev × Value)} {j:Nat} {q:PA.Ev × Value} (h:M[j]? =some q):SN.Cb s ((M.take (j+1)).map (·.1))=SN.jr (SN.Cb s ((M.take j).map (·.1))) q.1:=by
 rw [List.take_add_one,h]
 simp only [Option.toList_some,List.map_append,List.map_cons,List.map_nil]
 exact SN.Uy s _ _
theorem W9 (s:SN.Sc) (v:Value) (A:Option Addr) (n c:Nat) (M:List (PA.Ev × Value)) (w:World) (hs:SN.Ad s) (hE:LD w A n M) (hn:n<=1000000) (hF: ∀p∈M,(p.1.kind=1->0<=p.1.rune/\p.1.rune<=1114111)/\p.1.params.length<=100/\ ∀x∈p.1.params, -1<=x/\x<=65535) (hC: ∀p∈M,TL p.2) (hT:Gb w) (h:IsS w s v):
  Calls Tryz.prog 28 #[v,.slice A n c] w (Ay w (SN.Cb s (M.map (·.1)))):=by
 obtain⟨x,rfl,hg⟩:=h
 obtain⟨A0,cp,rfl⟩:=Af hg
 have HG:=hide hg
 have HS:=hide hs
 have HE:=hide hE
 have HF:=hide hF
 have HC:=hide hC
 have HT:=hide hT
 have SC:=hide (fun w' v' h=>E8 s v' hs w' h)
 clear hs hg hE hF hC hT
 go_enter Tryz.func28,Tryz.ntmps28
 go_upto_region 1 with (refine Ba HG _ rfl rfl rfl rfl rfl ?_;intro g gR w2 csR hsR HB2 HW2 HR2 HG2 hne hg1 Ai)
 clear HG
 go_wp2_with (refine AX HB2.out rfl _ rfl rfl ?_)
 refine(SC.out _ _ ⟨_,rfl,HG2.out⟩).mono ?_
 rintro e w3 ⟨v3,rfl,⟨x3,rfl,hg3⟩,hb3⟩
 obtain⟨A3,c3,rfl⟩:=Af hg3
 have HB3:=hide (HB2.out.below hb3 HB2.out.lt)
 have HR3:=hide (HR2.out.below hb3 HR2.out.lt)
 have HW3:=hide (HW2.out.trans (hb3.mono HW2.out.size))
 have HG3:=hide hg3
 clear hb3 hg3 HB2 HR2 HW2 HG2 SC
 go_upto_region 2 with (refine AQ HB3.out rfl rfl _ _ rfl rfl rfl rfl ?_;intro w4 hB4 hk4 hs4)
 have HB4:=hide hB4
 have HR4:=hide (HR3.out.kept hk4 (by simp;exact hne))
 have HW4:=hide (HW3.out.trans (hk4.toBelow HW3.out.size (fun k hh=>by simp at hh;omega)))
 have HG4:=hide (HG3.out.kept HB3.out (by decide) hk4)
 clear hB4 hk4 hs4 HB3 HR3 HW3 HG3
 go_wp2_with fail
 go_loopw [11] (fun i wr=> ∃j:Nat,j<=n/\i=.int .i64 j/\Hid (∃A0 c0,Am wr g (.slice A0 ((SN.Cb s ((M.take j).map (·.1))).g.rows*(SN.Cb s ((M.take j).map (·.1))).g.AB) c0) (SN.Cb s ((M.take j).map (·.1)))/\IsG wr (SN.Cb s ((M.take j).map (·.1))).g (gv (SN.Cb s ((M.take j).map (·.1))).g.rows (SN.Cb s ((M.take j).map (·.1))).g.AB (.slice A0 ((SN.Cb s ((M.take j).map (·.1))).g.rows*(SN.Cb s ((M.take j).map (·.1))).g.AB) c0)))/\Hid (Box wr gR 34 csR)/\Hid (Below w.heap.size w wr)) (fun i _=>n-(intOf i).toNat)
 case atStart=>exact⟨0,Nat.zero_le _,rfl,hide ⟨A3,c3,(show Am w4 g _ (SN.Cb s ((M.take 0).map (·.1))) from HB4.out),HG4.out⟩,HR4,HW4⟩
 case round=>
  obtain⟨j,hj,rfl,HX,HR,HW⟩:=hrel
  obtain⟨A5,c5,hB5,hG5⟩:=HX.out
  have HB5:=hide hB5
  have HG5:=hide hG5
  clear HX hB5 hG5 HB4 HR4 HW4 HG4
  by_cases hjn:j<n
  ·obtain⟨q,hq⟩: ∃q,M[j]? =some q:=⟨_,List.getElem?_eq_getElem (by rw [HE.out.1];exact hjn)⟩
   obtain⟨gb,hA',hgb,hcc,Ap,cp2,hpu,hps,hle⟩:=HE.out.2 j q hq
   have hfit:=HF.out q (List.mem_of_getElem? hq)
   have hcap:=HC.out q (List.mem_of_getElem? hq)
   have HTE:=SN.fG s hq
   obtain⟨e,u⟩:=q
   simp only [] at hcc hpu hps hle hfit hcap HTE
   subst hpu hA'
   obtain⟨e0,e1,e2,e3,e4,el,et⟩:=e
   simp only [] at hcc hps hle
   have b0:=HW.out
   have cb: ∀k u,(Hq ⟨e0,e1,e2,e3,e4,el,et⟩ (.slice Ap el.length cp2))[k]? =some u->wr.cell? ⟨gb,j*7+k,none⟩=some u:=fun k u hu=>(b0.cell (p:=⟨gb,j*7+k,none⟩) hgb).trans (hcc k u hu)
   have c0:wr.cell? ⟨gb,j*7,none⟩=some (.int .i64 e0):=cb 0 _ rfl
   have c1:wr.cell? ⟨gb,j*7+1,none⟩=some (.int .i32 e1):=cb 1 _ rfl
   have c2:wr.cell? ⟨gb,j*7+2,none⟩=some (.int .u8 e2):=cb 2 _ rfl
   have c3':wr.cell? ⟨gb,j*7+3,none⟩=some (.int .u8 e3):=cb 3 _ rfl
   have c4:wr.cell? ⟨gb,j*7+4,none⟩=some (.int .u8 e4):=cb 4 _ rfl
   have c5':wr.cell? ⟨gb,j*7+5,none⟩=some (.slice Ap el.length cp2):=cb 5 _ rfl
   have c6:wr.cell? ⟨gb,j*7+6,none⟩=some (.string (strOfNums et)):=cb 6 _ rfl
   have hl16:el.length<=100:=hfit.2.1
   have hcap2:el.length<=cp2:=hcap _ _ _ rfl
   clear hcap
   have MD:=fun (w':World) v' (hb:Below w.heap.size w w') h=>l8 (SN.Cb s ((M.take j).map (·.1))) v' e0 e1 e2 e3 e4 Ap el.length cp2 w.heap.size (strOfNums et) el w' (SN.G7 HS.out _) (hps.below hb) hb.size (by omega) hcap2 hfit.2.2 (fun e=>hfit.1 e) (HT.out.keep hb) h
   rw [<- show SN.Cb s ((M.take (j+1)).map (·.1))=SN.doS (SN.Cb s ((M.take j).map (·.1))) e0 e1 e2 e3 e4 el from HTE] at MD
   obtain⟨T1,hT1⟩: ∃T1,SN.Cb s ((M.take (j+1)).map (·.1))=T1:=⟨_,rfl⟩
   obtain⟨T0,hT0⟩: ∃T0,(SN.Cb s ((M.take j).map (·.1)))=T0:=⟨_,rfl⟩
   rw [hT1,hT0] at MD
   rw [hT0] at HB5 HG5
   have MD:=hide MD
   have ET1:=hide hT1
   have hbx:=Box.new wr 49 #[.int .i64 e0,.int .i32 e1,.int .u8 e2,.int .u8 e3,.int .u8 e4,.slice Ap el.length cp2,.string (strOfNums et)]
   have HBX:=hide ((Below.refl wr.heap.size wr).alloc (Nat.le_refl _) (.cells #[.int .i64 e0,.int .i32 e1,.int .u8 e2,.int .u8 e3,.int .u8 e4,.slice Ap el.length cp2,.string (strOfNums et)] 49))
   clear hT1 hT0 HTE cb hcc hps hle hfit hq b0
   go_wp2_with (refine AX (HB5.out.below HBX.out HB5.out.lt) rfl _ rfl rfl ?_)
   refine(MD.out _ _ (HW.out.trans (HBX.out.mono HW.out.size)) ⟨_,rfl,HG5.out.low HBX.out⟩).mono ?_
   rintro e w5 ⟨v5,rfl,⟨x5,rfl,hg5⟩,hb5⟩
   obtain⟨A6,c6',rfl⟩:=Af hg5
   have l9:=HBX.out.trans (hb5.mono HBX.out.size)
   have HB6:=hide (HB5.out.below l9 HB5.out.lt)
   have HR6:=hide (HR.out.below l9 HR.out.lt)
   have HW6:=hide (HW.out.trans (l9.mono HW.out.size))
   have HG6:=hide hg5
   clear hg5 hb5 l9 HB5 HG5 HR HW c0 c1 c2 c3' c4 c5' c6 hbx HBX MD
   go_wp2_with (refine AQ HB6.out rfl rfl _ _ rfl rfl rfl rfl ?_;intro w6 hB6 hk6 hs6)
   go_roundw
   case rel=>
    refine⟨j+1,by omega,by go_num,hide ?_,hide (HR6.out.kept hk6 (by simp;exact hne)),hide (HW6.out.trans (hk6.toBelow HW6.out.size (fun k hh=>by simp at hh;omega)))⟩
    rw [ET1.out]
    exact⟨A6,c6',hB6,HG6.out.kept HB6.out (by decide) hk6⟩
   case measure=>simp [intOf];omega
  ·have hjl:j=n:=by omega
   have HTN:=hide (show(SN.Cb s ((M.take j).map (·.1)))=SN.Cb s (M.map (·.1)) by rw [hjl, <- HE.out.1,List.take_length])
   obtain⟨TT,hTT⟩: ∃TT,SN.Cb s (M.map (·.1))=TT:=⟨_,rfl⟩
   rw [HTN.out,hTT] at HB5 HG5
   have ETT:=hide hTT
   clear HTN hTT
   have hjn2: ¬(j:Int)<(n:Int):=by omega
   clear hjl
   go_wp2_with (first | (refine AX HB5.out rfl _ rfl rfl ?_) | (refine AQ HR.out hsR rfl _ _ rfl rfl rfl rfl ?_;intro w8 hB8 hk8 hs8))
   have htt:=ETT.out
   subst htt
   exact BQ rfl rfl rfl hB8 HG5 HR HW hk8 Ai
theorem mD (s:ByteArray): ∃t:List Int,strOfNums t=s/\(∀x∈t,0<=x/\x<256)/\t.length=s.size:=by
 refine⟨s.data.toList.map fun b=>(b.toNat:Int),?_,fun x hx=>?_,by rw [List.length_map];rfl⟩
 ·apply ByteArray.ext
  apply Array.ext'
  simp only [strOfNums,List.map_map]
  conv=>rhs;rw [<- List.map_id s.data.toList]
  refine List.map_congr_left fun b _=>?_
  simp
 ·obtain⟨b,_,rfl⟩:=List.mem_map.1 hx
  have:=b.toNat_lt
  omega
theorem Qr (s:SN.Sc) (v:Value) (A:Option Addr) (n c:Nat) (M:List (PA.Ev × Value)) (w:World) (hs:SN.Ad s) (hE:LD w A n M) (hn:n<=1000000) (hnc:n<=c) (hF: ∀p∈M,PA.Fits p.1) (hC: ∀p∈M,TL p.2) (hT:Gb w) (h:IsS w s v):
  Calls Tryz.prog 28 #[v,.slice A n c] w (Ay w (SN.Cb s (M.map (·.1)))):=
 W9 s v A n c M w hs hE hn (fun p hp=>⟨(hF p hp).rune,Nat.le_trans (hF p hp).len (by omega),(hF p hp).nums⟩) hC hT h
theorem fH (s:SN.Sc) (v:Value) (kd rn pv it fn:Int) (Ae:Option Addr) (n c B:Nat) (tx:ByteArray) (l:List Int) (g:Nat) (w:World) (hs:SN.Ad s) (hl:Seen w B Ae n (l.map (Value.int .i64))) (hB:B<=w.heap.size) (hn:n<=100) (hnc:n<=c) (hlb: ∀x∈l, -1<=x/\x<=65535) (hr:kd=1->0<=rn/\rn<=1114111) (hT:Gb w) (hx:Box w g 49 #[.int .i64 kd,.int .i32 rn,.int .u8 pv,.int .u8 it,.int .u8 fn,.slice Ae n c,.string tx]) (h:IsS w s v):
  Calls Tryz.prog 28 #[v,.slice (some ⟨g,0,none⟩) 1 1] w (Ay w (SN.doS s kd rn pv it fn l)):=by
 obtain⟨t,ht,_,_⟩:=mD tx
 subst ht
 have hlen:l.length=n:=by have:=hl.1;simpa using this
 subst hlen
 refine W9 s v (some ⟨g,0,none⟩) 1 1 [(⟨kd,rn,pv,it,fn,l,t⟩,.slice Ae l.length c)] w hs ⟨rfl,fun k p hk=>⟨g,rfl,hx.lt,fun j u hu=>?_,?_⟩⟩ (by omega) (fun p hp=>?_) (fun p hp=>?_) hT h
 ·rw [hx.cell, <- Array.getElem?_toList]
  exact Jt [(⟨kd,rn,pv,it,fn,l,t⟩,.slice Ae l.length c)] k j p u hk hu
 ·have hp:=List.mem_of_getElem? hk
  simp only [List.mem_singleton] at hp
  subst hp
  exact⟨Ae,c,rfl,hl.more hB,Nat.le_trans hn (by omega)⟩
 ·simp only [List.mem_singleton] at hp
  subst hp
  exact⟨hr,hn,hlb⟩
 ·simp only [List.mem_singleton] at hp
  subst hp
  exact fF hnc
theorem qX (s t:SN.Sc) (v:Value) (kd rn pv it fn:Int) (Ae:Option Addr) (n c:Nat) (tx:ByteArray) (w:World) (hs:SN.Ad s) (AL: ∀(g:Nat) (w':World) (v':Value),Below w.heap.size w w'->Box w' g 49 #[.int .i64 kd,.int .i32 rn,.int .u8 pv,.int .u8 it,.int .u8 fn,.slice Ae n c,.string tx] ->IsS w' s v'->Calls Tryz.prog 28 #[v',.slice (some ⟨g,0,none⟩) 1 1] w' (Ay w' t)) (h:IsS w s v):
  Calls Tryz.prog 21 #[v,.agg #[.int .i64 kd,.int .i32 rn,.int .u8 pv,.int .u8 it,.int .u8 fn,.slice Ae n c,.string tx]] w (Ay w t):=by
 obtain⟨x,rfl,hg⟩:=h
 obtain⟨A,cp,rfl⟩:=Af hg
 have HG:=hide hg
 have ALH:=hide AL
 clear hg AL hs
 go_enter Tryz.func21,Tryz.ntmps21
 go_upto_region 1 with (refine Dj HG _ rfl rfl rfl _ rfl rfl (fun _=>rfl) rfl rfl ?_;intro g gE gR w2 csR hsR HB2 HE2 HW2 HR2 HG2 hne FY FZ hg1 Ai)
 clear HG
 obtain⟨e0,e1,e2,e3,e4,e5,e6⟩:=HE2.out.Bn
 go_wp2_with (refine AX HB2.out rfl _ rfl rfl ?_)
 have hbx:=(Below.refl w2.heap.size w2).alloc (Nat.le_refl _) (.cells #[.int .i64 kd,.int .i32 rn,.int .u8 pv,.int .u8 it,.int .u8 fn,.slice Ae n c,.string tx] 49)
 refine(ALH.out w2.heap.size _ _ (HW2.out.trans (hbx.mono HW2.out.size)) (Box.new w2 _ _) ⟨_,rfl,HG2.out.low hbx⟩).mono ?_
 rintro e w7 ⟨v7,rfl,⟨x7,rfl,hg7⟩,hb7⟩
 obtain⟨A7,c7,rfl⟩:=Af hg7
 have qY:=hbx.trans (hb7.mono hbx.size)
 have HR7:=hide (HR2.out.below qY HR2.out.lt)
 have HW7:=hide (HW2.out.trans (qY.mono HW2.out.size))
 have HG7:=hide hg7
 clear hb7 qY hbx hg7 HB2 HR2 HW2 HG2 HE2 e0 e1 e2 e3 e4 e5 e6
 go_wp2_with (refine AQ HR7.out hsR rfl _ _ rfl rfl rfl rfl ?_;intro w8 hB8 hk8 hs8)
 exact BQ rfl rfl rfl hB8 HG7 HR7 HW7 hk8 Ai
theorem qZ (s:SN.Sc) (v:Value) (kd rn pv it fn:Int) (Ae:Option Addr) (n c B:Nat) (tx:ByteArray) (l:List Int) (w:World) (hs:SN.Ad s) (hl:Seen w B Ae n (l.map (Value.int .i64))) (hB:B<=w.heap.size) (hn:n<=100) (hnc:n<=c) (hlb: ∀x∈l, -1<=x/\x<=65535) (hr:kd=1->0<=rn/\rn<=1114111) (hT:Gb w) (h:IsS w s v):
  Calls Tryz.prog 21 #[v,.agg #[.int .i64 kd,.int .i32 rn,.int .u8 pv,.int .u8 it,.int .u8 fn,.slice Ae n c,.string tx]] w (Ay w (SN.doS s kd rn pv it fn l)):=
 qX s _ v kd rn pv it fn Ae n c tx w hs (fun g w' v' hb hx h'=>fH s v' kd rn pv it fn Ae n c B tx l g w' hs (hl.below (hb.mono hB)) (Nat.le_trans hB hb.size) hn hnc hlb hr (hT.keep hb) hx h') h
def FedS (B g:Nat) (P':PA.S) (vp vt:Value) (T:SN.Sc) (w:World) (e:Ending) (w':World):Prop:=
 ∃v' vp' vt',e=.returned v'/\IsS w' T v'/\PB w' B g P' vp' vt'/\Kept [some g,vp.ownBlock,vt.ownBlock] w w'/\From w [vp.ownBlock] vp'.ownBlock/\From w [vt.ownBlock] vt'.ownBlock
theorem Vh {w w':World} {G:PG.Gr} {v:Value} {B q:Nat} {P:PA.S} {vp vt:Value} (h:IsG w G v) (hP:PB w B q P vp vt) (k:Kept [some q,vp.ownBlock,vt.ownBlock] w w'):IsG w' G v:=by
 obtain⟨s,h1,h2⟩:=h
 refine⟨s,h1,Bd h2 k (fun b hb hm=>?_)⟩
 simp only [List.mem_cons,List.not_mem_nil,or_false] at hm
 rcases hm with e | e | e
 ·exact Ac h2 hP.box (by decide) (hb.trans e)
 ·exact Ck h2 hP.par (by decide) (b:=b) hb e.symm
 ·exact Ck h2 hP.txt (by decide) (b:=b) hb e.symm
def Ep (w0:World) (sv pv av:Value) (E1 E2:Value->World->Prop) (L:Nat->Bool) (u:Nat->Value) (w:World):Prop:=
 (L 0=true->u 0=sv)/\(L 1=true->u 1=pv)/\(L 2=true->u 2=av)/\(L 3=false->L 4=false/\Below w0.heap.size w0 w)/\(L 3=true->L 4=false->E1 (u 3) w)/\(L 4=true->E2 (u 4) w)
section
variable {w0 w w':World} {sv pv av:Value} {E1 E2:Value->World->Prop} {L:Nat->Bool} {u:Nat->Value}
theorem Ep.same {u':Nat->Value} (h:Ep w0 sv pv av E1 E2 L u w) (e: ∀j,j<6->u j=u' j):Ep w0 sv pv av E1 E2 L u' w:=by
 obtain⟨a,b,c,d,f,g⟩:=h
 rw [e 0 (by decide)] at a
 rw [e 1 (by decide)] at b
 rw [e 2 (by decide)] at c
 rw [e 3 (by decide)] at f
 rw [e 4 (by decide)] at g
 exact⟨a,b,c,d,f,g⟩
theorem Ep.put0 (h:Ep w0 sv pv av E1 E2 L u w):Ep w0 sv pv av E1 E2 (mark L 0) (upd u 0 sv) w:=by
 obtain⟨a,b,c,d,f,g⟩:=h
 exact⟨fun _=>rfl,b,c,d,f,g⟩
theorem Ep.Jz (h:Ep w0 sv pv av E1 E2 L u w):Ep w0 sv pv av E1 E2 (mark L 1) (upd u 1 pv) w:=by
 obtain⟨a,b,c,d,f,g⟩:=h
 exact⟨a,fun _=>rfl,c,d,f,g⟩
theorem Ep.put2 (h:Ep w0 sv pv av E1 E2 L u w):Ep w0 sv pv av E1 E2 (mark L 2) (upd u 2 av) w:=by
 obtain⟨a,b,c,d,f,g⟩:=h
 exact⟨a,b,fun _=>rfl,d,f,g⟩
theorem Ep.put3 (h:Ep w0 sv pv av E1 E2 L u w) (h3:L 3=false) {v:Value} (e:E1 v w'):Ep w0 sv pv av E1 E2 (mark L 3) (upd u 3 v) w':=by
 obtain⟨a,b,c,d,f,g⟩:=h
 exact⟨a,b,c,fun h=>absurd h (by simp [mark]),fun _ _=>e,fun h=>absurd (show L 4=true from h) (by rw [(d h3).1];decide)⟩
theorem Ep.put4 (h:Ep w0 sv pv av E1 E2 L u w) (h3:L 3=true) {v:Value} (e:E2 v w'):Ep w0 sv pv av E1 E2 (mark L 4) (upd u 4 v) w':=by
 obtain⟨a,b,c,d,f,g⟩:=h
 exact⟨a,b,c,fun h=>absurd (h3.symm.trans h) (by decide),fun _ h=>absurd h (by simp [mark]),fun _=>e⟩
end
theorem TM (B q:Nat) (P:PA.S) (vp vt:Value) (s:SN.Sc) (v:Value) (A:Option Addr) (n c:Nat) (l:List Int) (w:World) (hs:SN.Ad s) (hP:PB w B q P vp vt) (hk:P.ok) (hpp:P.d.parts<=1000000) (hA:Seen w w.heap.size A n (u8s l)) (hl: ∀x∈l,0<=x/\x<256) (hn:n<=100000)
  (hL:0<n-> ∀ad,A=some ad->some ad.block∉ [some q,vp.ownBlock,vt.ownBlock]) (hB:4<=B) (ht:Ez w) (hT: ∀w2,Below B w w2->Gb w2) (h:IsS w s v):
  Calls Tryz.prog 14 #[v,.pointer (some ⟨q,0,none⟩),.slice A n c] w (FedS B q (PA.feed P l).1 vp vt (SN.Cb s (PA.feed P l).2) w):=by
 obtain⟨x,rfl,hg⟩:=h
 obtain⟨A0,cp,rfl⟩:=Af hg
 have HG:=hide hg
 have hqw:=hP.lt
 have hlen:l.length=n:=by have:=hA.1;simpa [u8s] using this
 have FD:=fun w' (hb:Below w.heap.size w w')=>dG B q P vp vt A n c l w' (hP.below hb) hk hpp ((hA.below hb).more hb.size) hl (by omega) hL hB (ht.keep hb)
 have hfit:=PA.YO hk l hl
 have hel:=PA.R9 P l
 have HV: ∀b,vp.ownBlock=some b->B<=b/\b<w.heap.size:=fun b hb=>by
  obtain⟨_,_,_,_,_,hq⟩:=Bj hP.par
  exact hq b hb
 have HV2: ∀b,vt.ownBlock=some b->B<=b/\b<w.heap.size:=fun b hb=>by
  obtain⟨_,_,_,_,_,hq⟩:=Bj hP.txt
  exact hq b hb
 generalize (PA.feed P l).2=evs at FD hfit hel⊢
 generalize (PA.feed P l).1=P' at FD⊢
 obtain⟨T,hT0⟩: ∃T,SN.Cb s evs=T:=⟨_,rfl⟩
 rw [hT0]
 have AL:=hide (fun (w':World) (v':Value) (A':Option Addr) (c':Nat) (M:List (PA.Ev × Value)) (hM:M.map (·.1)=evs) (hE:LD w' A' M.length M) (hc:M.length<=c') (hC: ∀p∈M,TL p.2) (hT':Gb w') (h:IsS w' s v')=>(show Calls Tryz.prog 28 #[v',.slice A' M.length c'] w' (Ay w' T) from by
  have hml:M.length<=3*l.length:=by rw [<- List.length_map (f:=(·.1)),hM];exact hel
  have:=Qr s v' A' M.length c' M w' hs hE (by omega) hc (fun p hp=>hfit p.1 (by rw [<- hM];exact List.mem_map_of_mem hp)) hC hT' h
  rw [hM,hT0] at this
  exact this))
 have FDH:=hide FD
 have HFIT:=hide hfit
 have hlow:=hP.low
 have HP:=hide hP
 have SAFE:=hide (fun (w2 w3:World) (hb:Below w.heap.size w w2) (hk:Kept [some q,vp.ownBlock,vt.ownBlock] w2 w3)=>(show Gb w3 from hT w3 ((hb.mono (by omega)).trans (hk.toBelow (Nat.le_trans (by omega) hb.size) (fun k hh=>by
  simp only [List.mem_cons,List.not_mem_nil,or_false] at hh
  rcases hh with e | e | e
  ·cases e;exact hlow
  ·exact(HV k e.symm).1
  ·exact(HV2 k e.symm).1)))))
 clear hs hg hA hL hP ht FD hfit hel hT hT0
 go_enter Tryz.func14,Tryz.ntmps14
 go_upto_region 1 with (first | (refine BK rfl _ rfl rfl ?_;intro g w1 hB1 hb1 hg1) | (refine BG rfl rfl ?_;intro gR w2 csR hR hsR hb2 hgR))
 have HB2:=hide (hB1.below hb2 hB1.lt)
 have HW2:=hide (hb1.trans (hb2.mono hb1.size))
 have HR2:=hide hR
 have HG2:=hide (HG.out.low HW2.out)
 have qF:=hb1.size
 have hne:gR≠g:=by have:=hB1.lt;omega
 have Ai:w.heap.size<=gR:=by omega
 have hgO:some g∉ [some q,vp.ownBlock,vt.ownBlock] :=by
  simp only [List.mem_cons,List.not_mem_nil,or_false,not_or]
  refine⟨by simp;omega,fun e=>?_,fun e=>?_⟩
  ·have:=(HV g e.symm).2;omega
  ·have:=(HV2 g e.symm).2;omega
 have hrO:some gR∉ [some q,vp.ownBlock,vt.ownBlock] :=by
  simp only [List.mem_cons,List.not_mem_nil,or_false,not_or]
  refine⟨by simp;omega,fun e=>?_,fun e=>?_⟩
  ·have:=(HV gR e.symm).2;omega
  ·have:=(HV2 gR e.symm).2;omega
 clear hB1 hb1 hb2 hR HG hgR
 go_simp
 refine JN (n:=12) (n0:=5) (Ep w2 (.agg (scA (.slice A0 (s.g.rows*s.g.AB) cp) s)) (.pointer (some ⟨q,0,none⟩)) (.slice A n c) (fun v w3=> ∃A' c' M vp' vt',v=.slice A' M.length c'/\M.map (·.1)=evs/\LD w3 A' M.length M/\M.length<=c'/\(∀p∈M,TL p.2)/\PB w3 B q P' vp' vt'/\Kept [some q,vp.ownBlock,vt.ownBlock] w2 w3/\From w2 [vp.ownBlock] vp'.ownBlock/\From w2 [vt.ownBlock] vt'.ownBlock) (fun v w3=> ∃vp' vt',EJ T v w3/\PB w3 B q P' vp' vt'/\Kept [some q,vp.ownBlock,vt.ownBlock] w2 w3/\From w2 [vp.ownBlock] vp'.ownBlock/\From w2 [vt.ownBlock] vt'.ownBlock)) (by kernel_rfl) (by kernel_rfl) (by kernel_rfl) rfl (by kernel_rfl) (fun L u u' w' h hj=>hj.same h) (QO ⟨?_,?_,?_,?_,?_⟩) ?_ ⟨fun h=>(by cases h),fun h=>(by cases h),fun h=>(by cases h),fun _=>⟨rfl,(Below.refl _ _).drew⟩,fun h=>(by cases h),fun h=>(by cases h)⟩
 ·intro L a w' hL hsame hsz hJ AJ hcl
  have e0:a.eval (.tmp 3)=(.pointer (some ⟨g,0,none⟩)):=Ab hsame (by kernel_rfl)
  have hx:Box w' g 34 (scA (.slice A0 (s.g.rows*s.g.AB) cp) s):=by
   cases h3:L 3 with
   | false=>exact HB2.out.below (hJ.2.2.2.1 h3).2 HB2.out.lt
   | true=>
    cases h4:L 4 with
    | false=>
     obtain⟨A',c',M,vp',vt',_,_,_,_,_,_,hkk,_⟩:=hJ.2.2.2.2.1 h3 h4
     exact HB2.out.kept hkk hgO
    | true=>
     obtain⟨vp',vt',_,_,hkk,_⟩:=hJ.2.2.2.2.2 h4
     exact HB2.out.kept hkk hgO
  exact Step.val _ rfl rfl (AY rfl) (.agg (scA (.slice A0 (s.g.rows*s.g.AB) cp) s)) w' (fun ρ hρ=>BL hx rfl ρ _ rfl ((hρ _).symm.trans e0)) hJ.put0
 ·intro L a w' hL hsame hsz hJ AJ hcl
  have e0:a.eval (.tmp 1)=(.pointer (some ⟨q,0,none⟩)):=Ab hsame (by kernel_rfl)
  refine Step.val _ rfl rfl (AY rfl) (.pointer (some ⟨q,0,none⟩)) w' (fun ρ hρ=>?_) hJ.Jz
  rw [hρ] at e0
  clear hJ hsame AJ hcl hρ hsz
  go_simp
 ·intro L a w' hL hsame hsz hJ AJ hcl
  have e0:a.eval (.tmp 2)=(.slice A n c):=Ab hsame (by kernel_rfl)
  refine Step.val _ rfl rfl (AY rfl) (.slice A n c) w' (fun ρ hρ=>?_) hJ.put2
  rw [hρ] at e0
  clear hJ hsame AJ hcl hρ hsz
  go_simp
 ·intro L a w' hL hsame hsz hJ AJ hcl
  have e0:a.eval (.tmp 8)=(.pointer (some ⟨q,0,none⟩)):=AU (j:=1) (by kernel_rfl) (hJ.2.1 (AZ AJ 1 (by kernel_rfl)))
  have e1:a.eval (.tmp 9)=(.slice A n c):=AU (j:=2) (by kernel_rfl) (hJ.2.2.1 (AZ AJ 2 (by kernel_rfl)))
  have hb3:=(hJ.2.2.2.1 hL).2
  refine Step.call _ rfl rfl (AY rfl) 33 #[.pointer (some ⟨q,0,none⟩),.slice A n c] (fun ρ hρ=>?_) ?_
  ·rw [hρ] at e0 e1
   have ef:ρ (.func 33)=.func (.func 33) #[] #[] :=(hρ _).symm
   clear hJ hsame AJ hcl hρ hsz hb3
   go_simp
  ·refine(FDH.out w' (HW2.out.trans (hb3.mono HW2.out.size))).mono ?_
   rintro e w3 ⟨v',vp',vt',M,rfl,hM,hPB,hown,hOM,hD,hK,hV,hF1,hF2⟩
   obtain⟨A',c',rfl,hcc,_⟩:=Bj hown
   refine⟨_,rfl,hJ.put3 hL ⟨A',c',M,vp',vt',rfl,hM,dH hown hOM (fun p hp=>Nat.le_trans (HFIT.out p.1 (by rw [<- hM];exact List.mem_map_of_mem hp)).len (by omega)),hcc,fun p hp=>?_,hPB,(Kept.of_below hb3).trans hK (fun x hx=>From.mem hx),hF1.later hb3.size,hF2.later hb3.size⟩⟩
   intro Ap k cp' e
   have:=hOM p hp
   rw [e] at this
   obtain⟨A2,c2,e2,hc2,_⟩:=Bj this
   cases e2
   exact hc2
 ·intro L a w' hL hsame hsz hJ AJ hcl
  have h3:=AZ AJ 3 (by kernel_rfl)
  obtain⟨A',c',M,vp',vt',hv3,hM,hE,hcc,hC,hPB,hkk,hF1,hF2⟩:=hJ.2.2.2.2.1 h3 hL
  have e0:a.eval (.tmp 7)=(.agg (scA (.slice A0 (s.g.rows*s.g.AB) cp) s)):=AU (j:=0) (by kernel_rfl) (hJ.1 (AZ AJ 0 (by kernel_rfl)))
  have e1:a.eval (.tmp 10)=(.slice A' M.length c'):=AU (j:=3) (by kernel_rfl) hv3
  have hT':Gb w':=SAFE.out w2 w' HW2.out hkk
  have hG':IsG w' s.g (gv s.g.rows s.g.AB (.slice A0 (s.g.rows*s.g.AB) cp)):=Vh HG2.out (HP.out.below HW2.out) hkk
  refine Step.call _ rfl rfl (AY rfl) 28 #[.agg (scA (.slice A0 (s.g.rows*s.g.AB) cp) s),.slice A' M.length c'] (fun ρ hρ=>?_) ?_
  ·rw [hρ] at e0 e1
   have ef:ρ (.func 28)=.func (.func 28) #[] #[] :=(hρ _).symm
   clear hJ hsame AJ hcl hρ hsz hv3 hM hE hcc hC hPB hkk hF1 hF2 hT' hG'
   go_simp
  ·refine(AL.out w' _ A' c' M hM hE hcc hC hT' ⟨_,rfl,hG'⟩).mono ?_
   rintro e w3 ⟨v3,rfl,hi3,hb3⟩
   exact⟨_,rfl,hJ.put4 h3 ⟨vp',vt',FP hi3,hPB.below hb3,hkk.below hb3,hF1,hF2⟩⟩
 ·intro L a w' hsame hsz hJ hall
  obtain⟨vp',vt',hSV,hPB,hkk,hF1,hF2⟩:=hJ.2.2.2.2.2 (hall 4 (by decide))
  obtain⟨u,hu,ha⟩:=Ej hsame
  rw [ha]
  obtain⟨A8,c8,f4,hi8⟩:=(show EJ T (u 4) w' by rw [hu 4];exact hSV)
  have HR3:=hide (HR2.out.kept hkk hrO)
  clear hSV hJ hsame hu ha hall
  change wpList _ _ _ _ (Act.put (Act.put (Act.put (Act.put (Act.put (Act.put (Aw _ u 0 _) (some 7) (u 0)) (some 8) (u 1)) (some 9) (u 2)) (some 10) (u 3)) (some 11) (u 4)) none (u 5)) w'
  simp only [Aw]
  generalize u 0=z0
  generalize u 1=z1
  generalize u 2=z2
  generalize u 3=z3
  generalize u 4=z4 at f4⊢
  generalize u 5=z5
  subst f4
  simp only [List.drop_succ_cons,List.drop_zero]
  refine AQ (x:=.slice A8 (T.g.rows*T.g.AB) c8) (s:=T) HR3.out hsR rfl _ _ rfl (by go_simp) (by go_simp) rfl ?_
  intro w8 hB8 hk8 hs8
  change Exit.then _ _ Exit.normal _ _
  go_simp
  go_step
  go_wp2_with fail
  refine bodyPost_ret (Bz rfl rfl hB8) rfl ⟨_,vp',vt',rfl,⟨_,rfl,hi8.kept HR3.out (by decide) hk8⟩,hPB.kept hk8 (by simp;omega) (fun b hb hm=>?_) (fun b hb hm=>?_),((Kept.of_below HW2.out).trans hkk (fun x hx=>From.mem hx)).trans hk8 (fun x hx=>by simp at hx;subst hx;exact fun h e=>.inr (by cases e;exact Ai)),hF1.later HW2.out.size,hF2.later HW2.out.size⟩
  ·simp only [List.mem_singleton,Option.some.injEq] at hm
   subst hm
   rcases hF1 b hb with e | e
   ·simp only [List.mem_singleton] at e
    have:=(HV b e.symm).2
    omega
   ·have:=HR2.out.lt
    omega
  ·simp only [List.mem_singleton,Option.some.injEq] at hm
   subst hm
   rcases hF2 b hb with e | e
   ·simp only [List.mem_singleton] at e
    have:=(HV2 b e.symm).2
    omega
   ·have:=HR2.out.lt
    omega
end Go.Proofs.YteecohpaecgdlaaGreatDoor
namespace Go.Proofs.YteecohpaecgdlaaGreatDoor
open Go Go.RowKit
def LK:List Int:= [97,98,99,100]
def LM:List Int:= [27,91,72,27,91,80]
theorem Vi:PA.feed PA.s0 LK=(PA.s0, [PA.pr 97,PA.pr 98,PA.pr 99,PA.pr 100]):=by kernel_rfl
theorem Vj:PA.feed PA.s0 LM=(PA.s0, [⟨4,0,0,0,72, [], []⟩,⟨4,0,0,0,80, [], []⟩]):=by kernel_rfl
theorem fI: ∀x∈LK,0<=x/\x<256:=by decide
theorem fJ: ∀x∈LM,0<=x/\x<256:=by decide
namespace SN
def srA:Sc:=Cb (full 2 3) [PA.pr 97,PA.pr 98,PA.pr 99,PA.pr 100]
def srB:Sc:=Cb srA [⟨4,0,0,0,72, [], []⟩,⟨4,0,0,0,80, [], []⟩]
theorem fK:PG.text (srA.g.f 0) srA.g.AB= [97,98,99] /\PG.text (srA.g.f 1) srA.g.AB= [100,32,32] /\srA.g.rows=2:=⟨by kernel_rfl,by kernel_rfl,by kernel_rfl⟩
theorem fM:PG.text (srB.g.f 0) srB.g.AB= [98,99,32] /\srB.row=0/\srB.g.rows=2:=⟨by kernel_rfl,by kernel_rfl,by kernel_rfl⟩
theorem fO:Ad (full 2 3)/\Ad srA/\Ad srB:=by
 have h:=M7 (R:=2) (K:=3) (by decide) (by decide) (by decide) (by decide)
 exact⟨h,G7 h _,G7 (G7 h _) _⟩
end SN
theorem Er (w:World) (hT:Gb w) (ht:Ez w):Calls Tryz.prog 3 #[] w fun e w'=>e=.returned (.bool true)/\Below w.heap.size w w':=by
 obtain⟨R0,RA,RB⟩:=SN.fO
 obtain⟨a1,a2,a3⟩:=SN.fK
 obtain⟨b1,b2,b3⟩:=SN.fM
 have NW:=hide (fun w'=>Wq 2 3 2 3 rfl rfl (by omega) (by omega) w')
 have h2:=ht.lt
 have FA:=hide (fun w' v A (hw:Below w.heap.size w w') (hP:PB w' w.heap.size w.heap.size PA.s0 (.slice none 0 0) (.slice none 0 0)) (hA:Seen w' w'.heap.size A 4 (u8s LK)) (hL: ∀ad,A=some ad->some ad.block∉ [some w.heap.size,(.slice none 0 0:Value).ownBlock,(.slice none 0 0:Value).ownBlock]) h=>
  TM w.heap.size w.heap.size PA.s0 (.slice none 0 0) (.slice none 0 0) (SN.full 2 3) v A 4 4 LK w' R0 hP PA.nI (by decide) hA fI (by omega) (fun _=>hL) h2 (ht.keep hw) (fun w2 hb2=>hT.keep (hw.trans hb2)) h)
 have FB:=hide (fun w' v A (hw:Below w.heap.size w w') (hP:PB w' w.heap.size w.heap.size PA.s0 (.slice none 0 0) (.slice none 0 0)) (hA:Seen w' w'.heap.size A 6 (u8s LM)) (hL: ∀ad,A=some ad->some ad.block∉ [some w.heap.size,(.slice none 0 0:Value).ownBlock,(.slice none 0 0:Value).ownBlock]) h=>
  TM w.heap.size w.heap.size PA.s0 (.slice none 0 0) (.slice none 0 0) SN.srA v A 6 6 LM w' RA hP PA.nI (by decide) hA fJ (by omega) (fun _=>hL) h2 (ht.keep hw) (fun w2 hb2=>hT.keep (hw.trans hb2)) h)
 rw [Vi] at FA
 rw [Vj] at FB
 have HSA:=hide (show SN.Cb (SN.full 2 3) [PA.pr 97,PA.pr 98,PA.pr 99,PA.pr 100] =SN.srA from rfl)
 have HSB:=hide (show SN.Cb SN.srA [⟨4,0,0,0,72, [], []⟩,⟨4,0,0,0,80, [], []⟩] =SN.srB from rfl)
 simp only [HSA.out] at FA
 simp only [HSB.out] at FB
 clear HSA HSB
 generalize SN.srB=TB at FB b1 b2 b3 RB
 generalize SN.srA=TA at FA FB a1 a2 a3 RA
 have TX0:=hide (fun (w':World) v (h:IsG w' TA.g v)=>KO (G:=TA.g) RA.g h 0 (by omega))
 have TX1:=hide (fun (w':World) v (h:IsG w' TA.g v)=>KO (G:=TA.g) RA.g h 1 (by omega))
 have TX2:=hide (fun (w':World) v (h:IsG w' TB.g v)=>KO (G:=TB.g) RB.g h 0 (by omega))
 rw [a1] at TX0
 rw [a2] at TX1
 rw [b1] at TX2
 have EB:=hide b2
 have STR0:=hide (show strOfNums [97,98,99] ={data:= #[97,98,99]} from rfl)
 have STR1:=hide (show strOfNums [100,32,32] ={data:= #[100,32,32]} from rfl)
 have STR2:=hide (show strOfNums [98,99,32] ={data:= #[98,99,32]} from rfl)
 have LO0:=hide (Below.refl w.heap.size w)
 have cs:=VH
 clear hT ht h2 a1 a2 a3 b1 b2 b3 R0 RA RB
 go_enter Tryz.func3,Tryz.ntmps3
 go_wp2_with fail
 refine(dF _).mono ?_
 rintro e w1 ⟨rfl,rfl⟩
 have hP:=p9 w w.heap.size (Nat.le_refl _)
 have bel:Below w.heap.size w (w.alloc (.cells (Dz PA.s0 (.slice none 0 0) (.slice none 0 0)) 82)):=(Below.refl _ _).alloc (Nat.le_refl _) _
 generalize w.alloc (.cells (Dz PA.s0 (.slice none 0 0) (.slice none 0 0)) 82)=w1 at hP bel⊢
 have HP1:=hide hP
 clear hP
 have LO1:=hide (LO0.out.trans (bel.mono LO0.out.size))
 clear LO0 bel
 go_wp2_with fail
 refine(NW.out _).mono ?_
 rintro e wb0 ⟨v0,rfl,⟨x0,rfl,hg0⟩,hb0⟩
 have HP2:=hide (HP1.out.below hb0)
 clear HP1
 have LO2:=hide (LO1.out.trans (hb0.mono LO1.out.size))
 clear LO1 hb0
 obtain⟨A0,c0,rfl⟩:=Af hg0
 have qc:=hide hg0
 clear hg0
 go_wp2_with fail
 have hS2:Seen (wb0.alloc (.cells (u8s LK).toArray 5 (4,5))) (wb0.alloc (.cells (u8s LK).toArray 5 (4,5))).heap.size (some ⟨wb0.heap.size,0,none⟩) 4 (u8s LK):=MR rfl (by simp) rfl (fun j u h=>by simpa using h)
 have fQ:Below wb0.heap.size wb0 (wb0.alloc (.cells (u8s LK).toArray 5 (4,5))):=(Below.refl _ _).alloc (Nat.le_refl _) _
 have hlt2:=LO2.out.size
 have hpl2:=HP2.out.lt
 refine(FA.out (wb0.alloc (.cells (u8s LK).toArray 5 (4,5))) _ _ (LO2.out.trans (fQ.mono LO2.out.size)) (HP2.out.below fQ) hS2 (fun ad h=>by cases h;simp [Value.ownBlock];omega) ⟨_,rfl,qc.out.low fQ⟩).mono ?_
 rintro e wf2 ⟨vf2,vp,vt,rfl,⟨x2,rfl,hg2⟩,mE,uW,_,_⟩
 obtain rfl:vp=.slice none 0 0:=mE.pn rfl
 obtain rfl:vt=.slice none 0 0:=mE.tn rfl
 have HP3:=hide mE
 have qd:Kept [some w.heap.size] wb0 wf2:=(Kept.of_below fQ).trans uW (fun x hx=>by
  simp [Value.ownBlock] at hx
  rcases hx with rfl | rfl
  ·exact From.mem (by simp)
  ·exact fun h e=>by cases e)
 clear mE hS2 hlt2 uW fQ
 have uX:=hide (qc.out.kept HP2.out.box (by decide) qd)
 have LO3:=hide (LO2.out.trans (qd.toBelow LO2.out.size (fun k hh=>by simp at hh;omega)))
 clear qc LO2 qd hpl2 HP2
 obtain⟨A2,c2,rfl⟩:=Af hg2
 have uY:=hide hg2
 clear hg2
 go_upto_region 5 with (first | (refine BG rfl rfl ?_;intro gs qg qh J5 Vk Jf Vl) | (refine AQ J5 Vk rfl _ _ rfl rfl rfl rfl ?_;intro D9 OH Jg Vm))
 have fU:w.heap.size<=gs:=by have:=LO3.out.size;omega
 have XA:w.heap.size≠gs:=by have:=HP3.out.lt;omega
 have HP4:=hide ((HP3.out.below Jf).kept Jg (by simp;exact XA) (by simp [Value.ownBlock]) (by simp [Value.ownBlock]))
 clear HP3
 have uZ:=hide (uX.out.low Jf)
 have uf:=hide (uY.out.low Jf)
 have LO4:=hide (LO3.out.trans (Jf.mono LO3.out.size))
 clear uX uY LO3 Jf
 have ug:=hide (uZ.out.kept J5 (by decide) Jg)
 have qj:=hide (uf.out.kept J5 (by decide) Jg)
 have LO5:=hide (LO4.out.trans (Jg.toBelow LO4.out.size (fun k hh=>by simp at hh;omega)))
 clear uZ uf LO4
 have Iw:=hide OH
 clear OH Jg J5 Vl Vm
 go_simp
 go_wp2_with (refine AX Iw.out rfl _ rfl rfl ?_)
 have hS3:Seen (D9.alloc (.cells (u8s LM).toArray 5 (6,7))) (D9.alloc (.cells (u8s LM).toArray 5 (6,7))).heap.size (some ⟨D9.heap.size,0,none⟩) 6 (u8s LM):=MR rfl (by simp) rfl (fun j u h=>by simpa using h)
 have fV:Below D9.heap.size D9 (D9.alloc (.cells (u8s LM).toArray 5 (6,7))):=(Below.refl _ _).alloc (Nat.le_refl _) _
 have hlt3:=LO5.out.size
 have hpl3:=HP4.out.lt
 refine(FB.out (D9.alloc (.cells (u8s LM).toArray 5 (6,7))) _ _ (LO5.out.trans (fV.mono LO5.out.size)) (HP4.out.below fV) hS3 (fun ad h=>by cases h;simp [Value.ownBlock];omega) ⟨_,rfl,qj.out.low fV⟩).mono ?_
 rintro e wf3 ⟨vf3,vp,vt,rfl,⟨x3,rfl,hg3⟩,mF,uh,_,_⟩
 obtain rfl:vp=.slice none 0 0:=mF.pn rfl
 obtain rfl:vt=.slice none 0 0:=mF.tn rfl
 have HP5:=hide mF
 have fZ:Kept [some w.heap.size] D9 wf3:=(Kept.of_below fV).trans uh (fun x hx=>by
  simp [Value.ownBlock] at hx
  rcases hx with rfl | rfl
  ·exact From.mem (by simp)
  ·exact fun h e=>by cases e)
 clear mF hS3 hlt3 uh fV
 have Iy:=hide (Iw.out.kept fZ (by simp;exact Ne.symm XA))
 have uj:=hide (ug.out.kept HP4.out.box (by decide) fZ)
 have um:=hide (qj.out.kept HP4.out.box (by decide) fZ)
 have LO6:=hide (LO5.out.trans (fZ.toBelow LO5.out.size (fun k hh=>by simp at hh;omega)))
 clear Iw ug qj LO5 fZ hpl3 HP4
 obtain⟨A3,c3,rfl⟩:=Af hg3
 have uo:=hide hg3
 clear hg3
 go_upto_region 6 with (first | (refine BG rfl rfl ?_;intro gt uq uw JD fq Iz fu) | (refine AQ JD fq rfl _ _ rfl rfl rfl rfl ?_;intro ZW TP I4 gD))
 have IZ:gs≠gt:=by have:=Iy.out.lt;omega
 have gF:w.heap.size<=gt:=by have:=LO6.out.size;omega
 have mG:w.heap.size≠gt:=by have:=HP5.out.lt;omega
 have HP6:=hide ((HP5.out.below Iz).kept I4 (by simp;exact mG) (by simp [Value.ownBlock]) (by simp [Value.ownBlock]))
 clear HP5
 have OI:=hide (Iy.out.below Iz Iy.out.lt)
 have uy:=hide (uj.out.low Iz)
 have uz:=hide (um.out.low Iz)
 have vB:=hide (uo.out.low Iz)
 have LO7:=hide (LO6.out.trans (Iz.mono LO6.out.size))
 clear Iy uj um uo LO6 Iz
 have Gp:=hide (OI.out.kept I4 (by simp;first | exact IZ | exact Ne.symm TQ))
 have vC:=hide (uy.out.kept JD (by decide) I4)
 have ql:=hide (uz.out.kept JD (by decide) I4)
 have vD:=hide (vB.out.kept JD (by decide) I4)
 have LO8:=hide (LO7.out.trans (I4.toBelow LO7.out.size (fun k hh=>by simp at hh;omega)))
 clear OI uy uz vB LO7
 have LP:=hide TP
 clear TP I4 JD fu gD
 go_simp
 have E9:=(show _=some (.int .i64 (TA.g.rows:Nat):Value) from Gp.out.c0)
 have Fa:=(show _=some (.int .i64 (TA.g.AB:Nat):Value) from Gp.out.c1)
 have Lv:=(show _=some (.slice A2 (TA.g.rows*TA.g.AB) c2:Value) from Gp.out.c2)
 go_wp2_with fail
 clear E9 Fa Lv
 refine(TX0.out _ _ ql.out).mono ?_
 rintro e wx1 ⟨rfl,hx1⟩
 have Ia:=hide (Gp.out.below hx1 Gp.out.lt)
 have Es:=hide (LP.out.below hx1 LP.out.lt)
 have vE:=hide (vC.out.low hx1)
 have qo:=hide (ql.out.low hx1)
 have Md:=hide (vD.out.low hx1)
 have LO9:=hide (LO8.out.trans (hx1.mono LO8.out.size))
 clear Gp LP vC ql vD LO8 hx1
 have E9:=(show _=some (.int .i64 (TA.g.rows:Nat):Value) from Ia.out.c0)
 have Fa:=(show _=some (.int .i64 (TA.g.AB:Nat):Value) from Ia.out.c1)
 have Lv:=(show _=some (.slice A2 (TA.g.rows*TA.g.AB) c2:Value) from Ia.out.c2)
 simp only [STR0.out]
 go_wp2_with fail
 clear E9 Fa Lv
 refine(TX1.out _ _ qo.out).mono ?_
 rintro e wx2 ⟨rfl,hx2⟩
 have Gq:=hide (Ia.out.below hx2 Ia.out.lt)
 have Gf:=hide (Es.out.below hx2 Es.out.lt)
 have vF:=hide (vE.out.low hx2)
 have vH:=hide (qo.out.low hx2)
 have SQ:=hide (Md.out.low hx2)
 have I5:=hide (LO9.out.trans (hx2.mono LO9.out.size))
 clear Ia Es vE qo Md LO9 hx2
 have Lx:=(show _=some (.int .i64 (TB.g.rows:Nat):Value) from Gf.out.c0)
 have Qs:=(show _=some (.int .i64 (TB.g.AB:Nat):Value) from Gf.out.c1)
 have Qt:=(show _=some (.slice A3 (TB.g.rows*TB.g.AB) c3:Value) from Gf.out.c2)
 simp only [STR1.out]
 go_wp2_with fail
 clear Lx Qs Qt
 refine(TX2.out _ _ SQ.out).mono ?_
 rintro e wx3 ⟨rfl,hx3⟩
 have Ib:=hide (Gq.out.below hx3 Gq.out.lt)
 have L6:=hide (Gf.out.below hx3 Gf.out.lt)
 have HGf10:=hide (vF.out.low hx3)
 have HGa9:=hide (vH.out.low hx3)
 have qA:=hide (SQ.out.low hx3)
 have Ic:=hide (I5.out.trans (hx3.mono I5.out.size))
 clear Gq Gf vF vH SQ I5 hx3
 have L8:=(show _=some (.int .i64 (0:Nat):Value) from(L6.out.c3).trans (by first | (rw [EB.out];done) | (rw [EB.out];rfl)))
 simp only [STR2.out]
 go_wp2_with fail
 clear L8
 go_ret
 exact⟨rfl,Ic.out⟩
theorem OJ (w:World) (h1:DZ w) (h2:FR w) (h3:JY w) (h4:Cw w) (h5:Ez w):Calls Tryz.prog 3 #[] w fun e w'=>e=.returned (.bool true)/\Below w.heap.size w w':=Er w ⟨h1,h2,h3,h4⟩ h5
end Go.Proofs.YteecohpaecgdlaaGreatDoor
