/- A part of the proof: SourceUse, EraseSpec, ScrStore, SrcLaw, SourceRuns, ScrRight. -/
import Derived.Test.YtoaabebgmdbjeaaGreatDoorQb23
set_option maxRecDepth 100000
set_option maxHeartbeats 16000000
set_option linter.unusedVariables false
namespace Go.Proofs.YtoaabebgmdbjeaaGreatDoor
open Go Go.RowKit
theorem oH (s t:SN.Sc) (v:Value) (rn pv it fn:Int) (Ae:Option Addr) (n c B:Nat) (tx:ByteArray) (l:List Int) (w:World) (hs:SN.Ad s) (hl:Seen w B Ae n (l.map (Value.int .i64))) (hB:B<=w.heap.size) (hn:n<=100) (hnc:n<=c) (hlb: ∀x∈l, -1<=x/\x<=65535) (hr:0<=rn/\rn<=1114111) (hT:Gh w) (ht:SN.FZ s rn=t) (h:IsS w s v):Calls Tryz.prog 58 #[v,.agg #[.int .i64 1,.int .i32 rn,.int .u8 pv,.int .u8 it,.int .u8 fn,.slice Ae n c,.string tx]] w (BF w t):=by
 obtain⟨x,rfl,hg⟩:=h
 obtain⟨A,cp,rfl⟩:=Af hg
 have HG:=hide hg
 have hgr:=hs.g.2.1
 have hgc:=hs.g.2.2.2.1
 have hR1:=hs.g.1
 have hK1:=hs.g.2.2.1
 have hrow:=hs.row
 have Bz:=hs.col
 have AT:=hide (fun w' v' (hb:Below w.heap.size w w') h=>(show Calls Tryz.prog 28 #[v',.int .i32 rn] w' (BF w' t) from ht▸PO s v' rn w' hs hr.1 hr.2 (hT.keep hb) h))
 clear ht hs hg hl hlb hT
 go_enter Tryz.func58,Tryz.ntmps58
 go_upto_region 1 with (refine Dp HG _ rfl rfl rfl _ rfl rfl (fun _=>rfl) rfl rfl ?_;intro g gE gR w2 csR hsR HB2 HE2 HW2 HR2 HG2 hne Fb Fe hg1 Am)
 clear HG
 obtain⟨e0,e1,e2,e3,e4,e5,e6⟩:=HE2.out.Bo
 go_wp2_with (refine AY HB2.out rfl _ rfl rfl ?_)
 refine(AT.out _ _ HW2.out ⟨_,rfl,HG2.out⟩).mono (Az HR2 HW2 fun A7 c7 w7 HR7 HW7 HG7=>?_)
 clear e0 e1 e2 e3 e4 e5 e6
 clear HB2 HR2 HW2 HG2 HE2
 go_wp2_with (refine AU HR7.out hsR rfl _ _ rfl rfl rfl rfl ?_;intro w8 hB8 hk8 hs8)
 exact Ba rfl rfl rfl hB8 HG7 HR7 HW7 hk8 Am
theorem oI (s t:SN.Sc) (v:Value) (rn pv it fn:Int) (Ae:Option Addr) (n c B:Nat) (tx:ByteArray) (l:List Int) (w:World) (hs:SN.Ad s) (hl:Seen w B Ae n (l.map (Value.int .i64))) (hB:B<=w.heap.size) (hn:n<=100) (hnc:n<=c) (hlb: ∀x∈l, -1<=x/\x<=65535) (hT:Gh w) (ht:SN.GA s fn=t) (h:IsS w s v):Calls Tryz.prog 58 #[v,.agg #[.int .i64 2,.int .i32 rn,.int .u8 pv,.int .u8 it,.int .u8 fn,.slice Ae n c,.string tx]] w (BF w t):=by
 obtain⟨x,rfl,hg⟩:=h
 obtain⟨A,cp,rfl⟩:=Af hg
 have HG:=hide hg
 have hgr:=hs.g.2.1
 have hgc:=hs.g.2.2.2.1
 have hR1:=hs.g.1
 have hK1:=hs.g.2.2.1
 have hrow:=hs.row
 have Bz:=hs.col
 have AT:=hide (fun w' v' (hb:Below w.heap.size w w') h=>(show Calls Tryz.prog 100 #[v',.int .u8 fn] w' (BF w' t) from ht▸aY s v' fn w' hs (hT.rX.keep hb) h))
 clear ht hs hg hl hlb hT
 go_enter Tryz.func58,Tryz.ntmps58
 go_upto_region 1 with (refine Dp HG _ rfl rfl rfl _ rfl rfl (fun _=>rfl) rfl rfl ?_;intro g gE gR w2 csR hsR HB2 HE2 HW2 HR2 HG2 hne Fb Fe hg1 Am)
 clear HG
 obtain⟨e0,e1,e2,e3,e4,e5,e6⟩:=HE2.out.Bo
 go_wp2_with (refine AY HB2.out rfl _ rfl rfl ?_)
 refine(AT.out _ _ HW2.out ⟨_,rfl,HG2.out⟩).mono (Az HR2 HW2 fun A7 c7 w7 HR7 HW7 HG7=>?_)
 clear e0 e1 e2 e3 e4 e5 e6
 clear HB2 HR2 HW2 HG2 HE2
 go_wp2_with (refine AU HR7.out hsR rfl _ _ rfl rfl rfl rfl ?_;intro w8 hB8 hk8 hs8)
 exact Ba rfl rfl rfl hB8 HG7 HR7 HW7 hk8 Am
theorem oJ (s t:SN.Sc) (v:Value) (rn pv it fn:Int) (Ae:Option Addr) (n c B:Nat) (tx:ByteArray) (l:List Int) (w:World) (hs:SN.Ad s) (hl:Seen w B Ae n (l.map (Value.int .i64))) (hB:B<=w.heap.size) (hn:n<=100) (hnc:n<=c) (hlb: ∀x∈l, -1<=x/\x<=65535) (hT:Gh w) (ht:SN.Fj s it fn=t) (h:IsS w s v):Calls Tryz.prog 58 #[v,.agg #[.int .i64 3,.int .i32 rn,.int .u8 pv,.int .u8 it,.int .u8 fn,.slice Ae n c,.string tx]] w (BF w t):=by
 obtain⟨x,rfl,hg⟩:=h
 obtain⟨A,cp,rfl⟩:=Af hg
 have HG:=hide hg
 have hgr:=hs.g.2.1
 have hgc:=hs.g.2.2.2.1
 have hR1:=hs.g.1
 have hK1:=hs.g.2.2.1
 have hrow:=hs.row
 have Bz:=hs.col
 have AT:=hide (fun w' v' (hb:Below w.heap.size w w') h=>(show Calls Tryz.prog 101 #[v',.agg #[.int .i64 3,.int .i32 rn,.int .u8 pv,.int .u8 it,.int .u8 fn,.slice Ae n c,.string tx]] w' (BF w' t) from ht▸kC s v' 3 rn pv it fn Ae n c tx w' hs h))
 clear ht hs hg hl hlb hT
 go_enter Tryz.func58,Tryz.ntmps58
 go_upto_region 1 with (refine Dp HG _ rfl rfl rfl _ rfl rfl (fun _=>rfl) rfl rfl ?_;intro g gE gR w2 csR hsR HB2 HE2 HW2 HR2 HG2 hne Fb Fe hg1 Am)
 clear HG
 obtain⟨e0,e1,e2,e3,e4,e5,e6⟩:=HE2.out.Bo
 go_wp2_with (refine AY HB2.out rfl _ rfl rfl ?_)
 refine(AT.out _ _ HW2.out ⟨_,rfl,HG2.out⟩).mono (Az HR2 HW2 fun A7 c7 w7 HR7 HW7 HG7=>?_)
 clear e0 e1 e2 e3 e4 e5 e6
 clear HB2 HR2 HW2 HG2 HE2
 go_wp2_with (refine AU HR7.out hsR rfl _ _ rfl rfl rfl rfl ?_;intro w8 hB8 hk8 hs8)
 exact Ba rfl rfl rfl hB8 HG7 HR7 HW7 hk8 Am
theorem oK (s t:SN.Sc) (v:Value) (rn pv it fn:Int) (Ae:Option Addr) (n c B:Nat) (tx:ByteArray) (l:List Int) (w:World) (hs:SN.Ad s) (hl:Seen w B Ae n (l.map (Value.int .i64))) (hB:B<=w.heap.size) (hn:n<=100) (hnc:n<=c) (hlb: ∀x∈l, -1<=x/\x<=65535) (hT:Gh w) (ht:SN.Wp s pv it fn l=t) (h:IsS w s v):Calls Tryz.prog 58 #[v,.agg #[.int .i64 4,.int .i32 rn,.int .u8 pv,.int .u8 it,.int .u8 fn,.slice Ae n c,.string tx]] w (BF w t):=by
 obtain⟨x,rfl,hg⟩:=h
 obtain⟨A,cp,rfl⟩:=Af hg
 have HG:=hide hg
 have hgr:=hs.g.2.1
 have hgc:=hs.g.2.2.2.1
 have hR1:=hs.g.1
 have hK1:=hs.g.2.2.1
 have hrow:=hs.row
 have Bz:=hs.col
 have AT:=hide (fun w' v' (hb:Below w.heap.size w w') h=>(show Calls Tryz.prog 102 #[v',.agg #[.int .i64 4,.int .i32 rn,.int .u8 pv,.int .u8 it,.int .u8 fn,.slice Ae n c,.string tx]] w' (BF w' t) from ht▸kG s v' 4 rn pv it fn Ae n c B tx l w' hs (hl.below (hb.mono hB)) (Nat.le_trans hB hb.size) hn hnc hlb (hT.flags.keep hb) h))
 clear ht hs hg hl hlb hT
 go_enter Tryz.func58,Tryz.ntmps58
 go_upto_region 1 with (refine Dp HG _ rfl rfl rfl _ rfl rfl (fun _=>rfl) rfl rfl ?_;intro g gE gR w2 csR hsR HB2 HE2 HW2 HR2 HG2 hne Fb Fe hg1 Am)
 clear HG
 obtain⟨e0,e1,e2,e3,e4,e5,e6⟩:=HE2.out.Bo
 go_wp2_with (refine AY HB2.out rfl _ rfl rfl ?_)
 refine(AT.out _ _ HW2.out ⟨_,rfl,HG2.out⟩).mono (Az HR2 HW2 fun A7 c7 w7 HR7 HW7 HG7=>?_)
 clear e0 e1 e2 e3 e4 e5 e6
 clear HB2 HR2 HW2 HG2 HE2
 go_wp2_with (refine AU HR7.out hsR rfl _ _ rfl rfl rfl rfl ?_;intro w8 hB8 hk8 hs8)
 exact Ba rfl rfl rfl hB8 HG7 HR7 HW7 hk8 Am
theorem kH (s t:SN.Sc) (v:Value) (kd rn pv it fn:Int) (Ae:Option Addr) (n c B:Nat) (tx:ByteArray) (l:List Int) (w:World) (hs:SN.Ad s) (hl:Seen w B Ae n (l.map (Value.int .i64))) (hB:B<=w.heap.size) (hn:n<=100) (hnc:n<=c) (hlb: ∀x∈l, -1<=x/\x<=65535) (hk:kd≠1/\kd≠2/\kd≠3/\kd≠4) (hT:Gh w) (ht:s=t) (h:IsS w s v):Calls Tryz.prog 58 #[v,.agg #[.int .i64 kd,.int .i32 rn,.int .u8 pv,.int .u8 it,.int .u8 fn,.slice Ae n c,.string tx]] w (BF w t):=by
 obtain⟨x,rfl,hg⟩:=h
 obtain⟨A,cp,rfl⟩:=Af hg
 have HG:=hide hg
 have hgr:=hs.g.2.1
 have hgc:=hs.g.2.2.2.1
 have hR1:=hs.g.1
 have hK1:=hs.g.2.2.1
 have hrow:=hs.row
 have Bz:=hs.col
 have q1:(kd==1)=false:=by simp;omega
 have q2:(kd==2)=false:=by simp;omega
 have q3:(kd==3)=false:=by simp;omega
 have q4:(kd==4)=false:=by simp;omega
 clear hk
 subst ht
 clear hs hg hl hlb hT
 go_enter Tryz.func58,Tryz.ntmps58
 go_upto_region 1 with (refine Dp HG _ rfl rfl rfl _ rfl rfl (fun _=>rfl) rfl rfl ?_;intro g gE gR w2 csR hsR HB2 HE2 HW2 HR2 HG2 hne Fb Fe hg1 Am)
 clear HG
 obtain⟨e0,e1,e2,e3,e4,e5,e6⟩:=HE2.out.Bo
 go_wp2_with (first | (refine AY HB2.out rfl _ rfl rfl ?_) | (refine AU HR2.out hsR rfl _ _ rfl rfl rfl rfl ?_;intro w8 hB8 hk8 hs8))
 exact Ba rfl rfl rfl hB8 HG2 HR2 HW2 hk8 Am
theorem kI (s:SN.Sc) (v:Value) (kd rn pv it fn:Int) (Ae:Option Addr) (n c B:Nat) (tx:ByteArray) (l:List Int) (w:World) (hs:SN.Ad s) (hl:Seen w B Ae n (l.map (Value.int .i64))) (hB:B<=w.heap.size) (hn:n<=100) (hnc:n<=c) (hlb: ∀x∈l, -1<=x/\x<=65535) (hr:kd=1->0<=rn/\rn<=1114111) (hT:Gh w) (h:IsS w s v):Calls Tryz.prog 58 #[v,.agg #[.int .i64 kd,.int .i32 rn,.int .u8 pv,.int .u8 it,.int .u8 fn,.slice Ae n c,.string tx]] w (BF w (SN.doS s kd rn pv it fn l)):=by
 unfold SN.doS
 by_cases h1:kd=1
 ·subst h1
  rw [if_pos rfl]
  exact oH s _ v rn pv it fn Ae n c B tx l w hs hl hB hn hnc hlb (hr rfl) hT rfl h
 rw [if_neg h1]
 by_cases h2:kd=2
 ·subst h2
  rw [if_pos rfl]
  exact oI s _ v rn pv it fn Ae n c B tx l w hs hl hB hn hnc hlb hT rfl h
 rw [if_neg h2]
 by_cases h3:kd=3
 ·subst h3
  rw [if_pos rfl]
  exact oJ s _ v rn pv it fn Ae n c B tx l w hs hl hB hn hnc hlb hT rfl h
 rw [if_neg h3]
 by_cases h4:kd=4
 ·subst h4
  rw [if_pos rfl]
  exact oK s _ v rn pv it fn Ae n c B tx l w hs hl hB hn hnc hlb hT rfl h
 rw [if_neg h4]
 exact kH s _ v kd rn pv it fn Ae n c B tx l w hs hl hB hn hnc hlb ⟨h1,h2,h3,h4⟩ hT rfl h
def R3 (v:Value):Prop:= ∀A k c,v=.slice A k c->k<=c
theorem ru {A:Option Addr} {k c:Nat} (h:k<=c):R3 (.slice A k c):=fun _ _ _ e=>by
 cases e
 exact h
theorem SN.bE (s:SN.Sc) {M:List (PA.Ev × Value)} {j:Nat} {q:PA.Ev × Value} (h:M[j]? =some q):SN.Ck s ((M.take (j+1)).map (·.1))=SN.Zi (SN.Ck s ((M.take j).map (·.1))) q.1:=by
 rw [List.take_add_one,h]
 simp only [Option.toList_some,List.map_append,List.map_cons,List.map_nil]
 exact SN.Tj s _ _
theorem VY (s:SN.Sc) (v:Value) (A:Option Addr) (n c:Nat) (M:List (PA.Ev × Value)) (w:World) (hs:SN.Ad s) (hE:Lh w A n M) (hn:n<=1000000) (hF: ∀p∈M,(p.1.kind=1->0<=p.1.rune/\p.1.rune<=1114111)/\p.1.params.length<=100/\ ∀x∈p.1.params, -1<=x/\x<=65535) (hC: ∀p∈M,R3 p.2) (hT:Gh w) (h:IsS w s v):
  Calls Tryz.prog 24 #[v,.slice A n c] w (BF w (SN.Ck s (M.map (·.1)))):=by
 obtain⟨x,rfl,hg⟩:=h
 obtain⟨A0,cp,rfl⟩:=Af hg
 have HG:=hide hg
 have HS:=hide hs
 have HE:=hide hE
 have HF:=hide hF
 have HC:=hide hC
 have HT:=hide hT
 have SC:=hide (fun w' v' h=>FC s v' hs w' h)
 clear hs hg hE hF hC hT
 go_enter Tryz.func24,Tryz.ntmps24
 go_upto_region 1 with (refine Bb HG _ rfl rfl rfl rfl rfl ?_;intro g gR w2 csR hsR HB2 HW2 HR2 HG2 hne hg1 Am)
 clear HG
 go_wp2_with (refine AY HB2.out rfl _ rfl rfl ?_)
 refine(SC.out _ _ ⟨_,rfl,HG2.out⟩).mono ?_
 rintro e w3 ⟨v3,rfl,⟨x3,rfl,hg3⟩,hb3⟩
 obtain⟨A3,c3,rfl⟩:=Af hg3
 have HB3:=hide (HB2.out.below hb3 HB2.out.lt)
 have HR3:=hide (HR2.out.below hb3 HR2.out.lt)
 have HW3:=hide (HW2.out.trans (hb3.mono HW2.out.size))
 have HG3:=hide hg3
 clear hb3 hg3 HB2 HR2 HW2 HG2 SC
 go_upto_region 2 with (refine AU HB3.out rfl rfl _ _ rfl rfl rfl rfl ?_;intro w4 hB4 hk4 hs4)
 have HB4:=hide hB4
 have HR4:=hide (HR3.out.kept hk4 (by simp;exact hne))
 have HW4:=hide (HW3.out.trans (hk4.toBelow HW3.out.size (fun k hh=>by simp at hh;omega)))
 have HG4:=hide (HG3.out.kept HB3.out (by decide) hk4)
 clear hB4 hk4 hs4 HB3 HR3 HW3 HG3
 go_wp2_with fail
 go_loopw [11] (fun i wr=> ∃j:Nat,j<=n/\i=.int .i64 j/\Hid (∃A0 c0,Au wr g (.slice A0 ((SN.Ck s ((M.take j).map (·.1))).g.rows*(SN.Ck s ((M.take j).map (·.1))).g.AB) c0) (SN.Ck s ((M.take j).map (·.1)))/\IsG wr (SN.Ck s ((M.take j).map (·.1))).g (gv (SN.Ck s ((M.take j).map (·.1))).g.rows (SN.Ck s ((M.take j).map (·.1))).g.AB (.slice A0 ((SN.Ck s ((M.take j).map (·.1))).g.rows*(SN.Ck s ((M.take j).map (·.1))).g.AB) c0)))/\Hid (Box wr gR 43 csR)/\Hid (Below w.heap.size w wr)) (fun i _=>n-(intOf i).toNat)
 case atStart=>exact⟨0,Nat.zero_le _,rfl,hide ⟨A3,c3,(show Au w4 g _ (SN.Ck s ((M.take 0).map (·.1))) from HB4.out),HG4.out⟩,HR4,HW4⟩
 case round=>
  obtain⟨j,hj,rfl,HX,HR,HW⟩:=hrel
  obtain⟨A5,c5,hB5,hG5⟩:=HX.out
  have HB5:=hide hB5
  have HG5:=hide hG5
  clear HX hB5 hG5 HB4 HR4 HW4 HG4
  by_cases hjn:j<n
  ·obtain⟨q,hq⟩: ∃q,M[j]? =some q:=⟨_,List.getElem?_eq_getElem (by rw [HE.out.1];exact hjn)⟩
   obtain⟨gb,hA',hgb,hcc,Ap,cp2,hpu,hps,hle⟩:=HE.out.2 j q hq
   have hfit:=HF.out q (List.mem_of_getElem? hq)
   have hcap:=HC.out q (List.mem_of_getElem? hq)
   have HTE:=SN.bE s hq
   obtain⟨e,u⟩:=q
   simp only [] at hcc hpu hps hle hfit hcap HTE
   subst hpu hA'
   obtain⟨e0,e1,e2,e3,e4,el,et⟩:=e
   simp only [] at hcc hps hle
   have b0:=HW.out
   have cb: ∀k u,(Gx ⟨e0,e1,e2,e3,e4,el,et⟩ (.slice Ap el.length cp2))[k]? =some u->wr.cell? ⟨gb,j*7+k,none⟩=some u:=fun k u hu=>(b0.cell (p:=⟨gb,j*7+k,none⟩) hgb).trans (hcc k u hu)
   have c0:wr.cell? ⟨gb,j*7,none⟩=some (.int .i64 e0):=cb 0 _ rfl
   have c1:wr.cell? ⟨gb,j*7+1,none⟩=some (.int .i32 e1):=cb 1 _ rfl
   have c2:wr.cell? ⟨gb,j*7+2,none⟩=some (.int .u8 e2):=cb 2 _ rfl
   have c3':wr.cell? ⟨gb,j*7+3,none⟩=some (.int .u8 e3):=cb 3 _ rfl
   have c4:wr.cell? ⟨gb,j*7+4,none⟩=some (.int .u8 e4):=cb 4 _ rfl
   have c5':wr.cell? ⟨gb,j*7+5,none⟩=some (.slice Ap el.length cp2):=cb 5 _ rfl
   have c6:wr.cell? ⟨gb,j*7+6,none⟩=some (.string (strOfNums et)):=cb 6 _ rfl
   have hl16:el.length<=100:=hfit.2.1
   have hcap2:el.length<=cp2:=hcap _ _ _ rfl
   clear hcap
   have MD:=fun (w':World) v' (hb:Below w.heap.size w w') h=>kI (SN.Ck s ((M.take j).map (·.1))) v' e0 e1 e2 e3 e4 Ap el.length cp2 w.heap.size (strOfNums et) el w' (SN.Gs HS.out _) (hps.below hb) hb.size (by omega) hcap2 hfit.2.2 (fun e=>hfit.1 e) (HT.out.keep hb) h
   rw [<- show SN.Ck s ((M.take (j+1)).map (·.1))=SN.doS (SN.Ck s ((M.take j).map (·.1))) e0 e1 e2 e3 e4 el from HTE] at MD
   obtain⟨T1,hT1⟩: ∃T1,SN.Ck s ((M.take (j+1)).map (·.1))=T1:=⟨_,rfl⟩
   obtain⟨T0,hT0⟩: ∃T0,(SN.Ck s ((M.take j).map (·.1)))=T0:=⟨_,rfl⟩
   rw [hT1,hT0] at MD
   rw [hT0] at HB5 HG5
   have MD:=hide MD
   have ET1:=hide hT1
   have hbx:=Box.new wr 34 #[.int .i64 e0,.int .i32 e1,.int .u8 e2,.int .u8 e3,.int .u8 e4,.slice Ap el.length cp2,.string (strOfNums et)]
   have HBX:=hide ((Below.refl wr.heap.size wr).alloc (Nat.le_refl _) (.cells #[.int .i64 e0,.int .i32 e1,.int .u8 e2,.int .u8 e3,.int .u8 e4,.slice Ap el.length cp2,.string (strOfNums et)] 34))
   clear hT1 hT0 HTE cb hcc hps hle hfit hq b0
   go_wp2_with (refine AY (HB5.out.below HBX.out HB5.out.lt) rfl _ rfl rfl ?_)
   refine(MD.out _ _ (HW.out.trans (HBX.out.mono HW.out.size)) ⟨_,rfl,HG5.out.low HBX.out⟩).mono ?_
   rintro e w5 ⟨v5,rfl,⟨x5,rfl,hg5⟩,hb5⟩
   obtain⟨A6,c6',rfl⟩:=Af hg5
   have kJ:=HBX.out.trans (hb5.mono HBX.out.size)
   have HB6:=hide (HB5.out.below kJ HB5.out.lt)
   have HR6:=hide (HR.out.below kJ HR.out.lt)
   have HW6:=hide (HW.out.trans (kJ.mono HW.out.size))
   have HG6:=hide hg5
   clear hg5 hb5 kJ HB5 HG5 HR HW c0 c1 c2 c3' c4 c5' c6 hbx HBX MD
   go_wp2_with (refine AU HB6.out rfl rfl _ _ rfl rfl rfl rfl ?_;intro w6 hB6 hk6 hs6)
   go_roundw
   case rel=>
    refine⟨j+1,by omega,by go_num,hide ?_,hide (HR6.out.kept hk6 (by simp;exact hne)),hide (HW6.out.trans (hk6.toBelow HW6.out.size (fun k hh=>by simp at hh;omega)))⟩
    rw [ET1.out]
    exact⟨A6,c6',hB6,HG6.out.kept HB6.out (by decide) hk6⟩
   case measure=>simp [intOf];omega
  ·have hjl:j=n:=by omega
   have HTN:=hide (show(SN.Ck s ((M.take j).map (·.1)))=SN.Ck s (M.map (·.1)) by rw [hjl, <- HE.out.1,List.take_length])
   obtain⟨TT,hTT⟩: ∃TT,SN.Ck s (M.map (·.1))=TT:=⟨_,rfl⟩
   rw [HTN.out,hTT] at HB5 HG5
   have ETT:=hide hTT
   clear HTN hTT
   have hjn2: ¬(j:Int)<(n:Int):=by omega
   clear hjl
   go_wp2_with (first | (refine AY HB5.out rfl _ rfl rfl ?_) | (refine AU HR.out hsR rfl _ _ rfl rfl rfl rfl ?_;intro w8 hB8 hk8 hs8))
   have htt:=ETT.out
   subst htt
   exact Ba rfl rfl rfl hB8 HG5 HR HW hk8 Am
theorem kK (s:ByteArray): ∃t:List Int,strOfNums t=s/\(∀x∈t,0<=x/\x<256)/\t.length=s.size:=by
 refine⟨s.data.toList.map fun b=>(b.toNat:Int),?_,fun x hx=>?_,by rw [List.length_map];rfl⟩
 ·apply ByteArray.ext
  apply Array.ext'
  simp only [strOfNums,List.map_map]
  conv=>rhs;rw [<- List.map_id s.data.toList]
  refine List.map_congr_left fun b _=>?_
  simp
 ·obtain⟨b,_,rfl⟩:=List.mem_map.1 hx
  have:=b.toNat_lt
  omega
theorem kL (s:SN.Sc) (v:Value) (A:Option Addr) (n c:Nat) (M:List (PA.Ev × Value)) (w:World) (hs:SN.Ad s) (hE:Lh w A n M) (hn:n<=1000000) (hnc:n<=c) (hF: ∀p∈M,PA.Fits p.1) (hC: ∀p∈M,R3 p.2) (hT:Gh w) (h:IsS w s v):
  Calls Tryz.prog 24 #[v,.slice A n c] w (BF w (SN.Ck s (M.map (·.1)))):=
 VY s v A n c M w hs hE hn (fun p hp=>⟨(hF p hp).rune,Nat.le_trans (hF p hp).len (by omega),(hF p hp).nums⟩) hC hT h
theorem bF (s:SN.Sc) (v:Value) (kd rn pv it fn:Int) (Ae:Option Addr) (n c B:Nat) (tx:ByteArray) (l:List Int) (g:Nat) (w:World) (hs:SN.Ad s) (hl:Seen w B Ae n (l.map (Value.int .i64))) (hB:B<=w.heap.size) (hn:n<=100) (hnc:n<=c) (hlb: ∀x∈l, -1<=x/\x<=65535) (hr:kd=1->0<=rn/\rn<=1114111) (hT:Gh w) (hx:Box w g 34 #[.int .i64 kd,.int .i32 rn,.int .u8 pv,.int .u8 it,.int .u8 fn,.slice Ae n c,.string tx]) (h:IsS w s v):
  Calls Tryz.prog 24 #[v,.slice (some ⟨g,0,none⟩) 1 1] w (BF w (SN.doS s kd rn pv it fn l)):=by
 obtain⟨t,ht,_,_⟩:=kK tx
 subst ht
 have hlen:l.length=n:=by have:=hl.1;simpa using this
 subst hlen
 refine VY s v (some ⟨g,0,none⟩) 1 1 [(⟨kd,rn,pv,it,fn,l,t⟩,.slice Ae l.length c)] w hs ⟨rfl,fun k p hk=>⟨g,rfl,hx.lt,fun j u hu=>?_,?_⟩⟩ (by omega) (fun p hp=>?_) (fun p hp=>?_) hT h
 ·rw [hx.cell, <- Array.getElem?_toList]
  exact K8 [(⟨kd,rn,pv,it,fn,l,t⟩,.slice Ae l.length c)] k j p u hk hu
 ·have hp:=List.mem_of_getElem? hk
  simp only [List.mem_singleton] at hp
  subst hp
  exact⟨Ae,c,rfl,hl.more hB,Nat.le_trans hn (by omega)⟩
 ·simp only [List.mem_singleton] at hp
  subst hp
  exact⟨hr,hn,hlb⟩
 ·simp only [List.mem_singleton] at hp
  subst hp
  exact ru hnc
theorem oL (s t:SN.Sc) (v:Value) (kd rn pv it fn:Int) (Ae:Option Addr) (n c:Nat) (tx:ByteArray) (w:World) (hs:SN.Ad s) (AL: ∀(g:Nat) (w':World) (v':Value),Below w.heap.size w w'->Box w' g 34 #[.int .i64 kd,.int .i32 rn,.int .u8 pv,.int .u8 it,.int .u8 fn,.slice Ae n c,.string tx] ->IsS w' s v'->Calls Tryz.prog 24 #[v',.slice (some ⟨g,0,none⟩) 1 1] w' (BF w' t)) (h:IsS w s v):
  Calls Tryz.prog 15 #[v,.agg #[.int .i64 kd,.int .i32 rn,.int .u8 pv,.int .u8 it,.int .u8 fn,.slice Ae n c,.string tx]] w (BF w t):=by
 obtain⟨x,rfl,hg⟩:=h
 obtain⟨A,cp,rfl⟩:=Af hg
 have HG:=hide hg
 have ALH:=hide AL
 clear hg AL hs
 go_enter Tryz.func15,Tryz.ntmps15
 go_upto_region 1 with (refine Dp HG _ rfl rfl rfl _ rfl rfl (fun _=>rfl) rfl rfl ?_;intro g gE gR w2 csR hsR HB2 HE2 HW2 HR2 HG2 hne Fb Fe hg1 Am)
 clear HG
 obtain⟨e0,e1,e2,e3,e4,e5,e6⟩:=HE2.out.Bo
 go_wp2_with (refine AY HB2.out rfl _ rfl rfl ?_)
 have hbx:=(Below.refl w2.heap.size w2).alloc (Nat.le_refl _) (.cells #[.int .i64 kd,.int .i32 rn,.int .u8 pv,.int .u8 it,.int .u8 fn,.slice Ae n c,.string tx] 34)
 refine(ALH.out w2.heap.size _ _ (HW2.out.trans (hbx.mono HW2.out.size)) (Box.new w2 _ _) ⟨_,rfl,HG2.out.low hbx⟩).mono ?_
 rintro e w7 ⟨v7,rfl,⟨x7,rfl,hg7⟩,hb7⟩
 obtain⟨A7,c7,rfl⟩:=Af hg7
 have oM:=hbx.trans (hb7.mono hbx.size)
 have HR7:=hide (HR2.out.below oM HR2.out.lt)
 have HW7:=hide (HW2.out.trans (oM.mono HW2.out.size))
 have HG7:=hide hg7
 clear hb7 oM hbx hg7 HB2 HR2 HW2 HG2 HE2 e0 e1 e2 e3 e4 e5 e6
 go_wp2_with (refine AU HR7.out hsR rfl _ _ rfl rfl rfl rfl ?_;intro w8 hB8 hk8 hs8)
 exact Ba rfl rfl rfl hB8 HG7 HR7 HW7 hk8 Am
theorem bG (s:SN.Sc) (v:Value) (kd rn pv it fn:Int) (Ae:Option Addr) (n c B:Nat) (tx:ByteArray) (l:List Int) (w:World) (hs:SN.Ad s) (hl:Seen w B Ae n (l.map (Value.int .i64))) (hB:B<=w.heap.size) (hn:n<=100) (hnc:n<=c) (hlb: ∀x∈l, -1<=x/\x<=65535) (hr:kd=1->0<=rn/\rn<=1114111) (hT:Gh w) (h:IsS w s v):
  Calls Tryz.prog 15 #[v,.agg #[.int .i64 kd,.int .i32 rn,.int .u8 pv,.int .u8 it,.int .u8 fn,.slice Ae n c,.string tx]] w (BF w (SN.doS s kd rn pv it fn l)):=
 oL s _ v kd rn pv it fn Ae n c tx w hs (fun g w' v' hb hx h'=>bF s v' kd rn pv it fn Ae n c B tx l g w' hs (hl.below (hb.mono hB)) (Nat.le_trans hB hb.size) hn hnc hlb hr (hT.keep hb) hx h') h
def FedS (B g:Nat) (P':PA.S) (vp vt:Value) (T:SN.Sc) (w:World) (e:Ending) (w':World):Prop:=
 ∃v' vp' vt',e=.returned v'/\IsS w' T v'/\PB w' B g P' vp' vt'/\Kept [some g,vp.ownBlock,vt.ownBlock] w w'/\From w [vp.ownBlock] vp'.ownBlock/\From w [vt.ownBlock] vt'.ownBlock
theorem UZ {w w':World} {G:PG.Gr} {v:Value} {B q:Nat} {P:PA.S} {vp vt:Value} (h:IsG w G v) (hP:PB w B q P vp vt) (k:Kept [some q,vp.ownBlock,vt.ownBlock] w w'):IsG w' G v:=by
 obtain⟨s,h1,h2⟩:=h
 refine⟨s,h1,Bf h2 k (fun b hb hm=>?_)⟩
 simp only [List.mem_cons,List.not_mem_nil,or_false] at hm
 rcases hm with e | e | e
 ·exact Ac h2 hP.box (by decide) (hb.trans e)
 ·exact Cn h2 hP.par (by decide) (b:=b) hb e.symm
 ·exact Cn h2 hP.txt (by decide) (b:=b) hb e.symm
def Es (w0:World) (sv pv av:Value) (E1 E2:Value->World->Prop) (L:Nat->Bool) (u:Nat->Value) (w:World):Prop:=
 (L 0=true->u 0=sv)/\(L 1=true->u 1=pv)/\(L 2=true->u 2=av)/\(L 3=false->L 4=false/\Below w0.heap.size w0 w)/\(L 3=true->L 4=false->E1 (u 3) w)/\(L 4=true->E2 (u 4) w)
section
variable {w0 w w':World} {sv pv av:Value} {E1 E2:Value->World->Prop} {L:Nat->Bool} {u:Nat->Value}
theorem Es.same {u':Nat->Value} (h:Es w0 sv pv av E1 E2 L u w) (e: ∀j,j<6->u j=u' j):Es w0 sv pv av E1 E2 L u' w:=by
 obtain⟨a,b,c,d,f,g⟩:=h
 rw [e 0 (by decide)] at a
 rw [e 1 (by decide)] at b
 rw [e 2 (by decide)] at c
 rw [e 3 (by decide)] at f
 rw [e 4 (by decide)] at g
 exact⟨a,b,c,d,f,g⟩
theorem Es.put0 (h:Es w0 sv pv av E1 E2 L u w):Es w0 sv pv av E1 E2 (mark L 0) (upd u 0 sv) w:=by
 obtain⟨a,b,c,d,f,g⟩:=h
 exact⟨fun _=>rfl,b,c,d,f,g⟩
theorem Es.Jc (h:Es w0 sv pv av E1 E2 L u w):Es w0 sv pv av E1 E2 (mark L 1) (upd u 1 pv) w:=by
 obtain⟨a,b,c,d,f,g⟩:=h
 exact⟨a,fun _=>rfl,c,d,f,g⟩
theorem Es.put2 (h:Es w0 sv pv av E1 E2 L u w):Es w0 sv pv av E1 E2 (mark L 2) (upd u 2 av) w:=by
 obtain⟨a,b,c,d,f,g⟩:=h
 exact⟨a,b,fun _=>rfl,d,f,g⟩
theorem Es.put3 (h:Es w0 sv pv av E1 E2 L u w) (h3:L 3=false) {v:Value} (e:E1 v w'):Es w0 sv pv av E1 E2 (mark L 3) (upd u 3 v) w':=by
 obtain⟨a,b,c,d,f,g⟩:=h
 exact⟨a,b,c,fun h=>absurd h (by simp [mark]),fun _ _=>e,fun h=>absurd (show L 4=true from h) (by rw [(d h3).1];decide)⟩
theorem Es.put4 (h:Es w0 sv pv av E1 E2 L u w) (h3:L 3=true) {v:Value} (e:E2 v w'):Es w0 sv pv av E1 E2 (mark L 4) (upd u 4 v) w':=by
 obtain⟨a,b,c,d,f,g⟩:=h
 exact⟨a,b,c,fun h=>absurd (h3.symm.trans h) (by decide),fun _ h=>absurd h (by simp [mark]),fun _=>e⟩
end
theorem R4 (B q:Nat) (P:PA.S) (vp vt:Value) (s:SN.Sc) (v:Value) (A:Option Addr) (n c:Nat) (l:List Int) (w:World) (hs:SN.Ad s) (hP:PB w B q P vp vt) (hk:P.ok) (hpp:P.d.parts<=1000000) (hA:Seen w w.heap.size A n (u8s l)) (hl: ∀x∈l,0<=x/\x<256) (hn:n<=100000)
  (hL:0<n-> ∀ad,A=some ad->some ad.block∉ [some q,vp.ownBlock,vt.ownBlock]) (hB:6<=B) (ht:Fp w) (hT: ∀w2,Below B w w2->Gh w2) (h:IsS w s v):
  Calls Tryz.prog 26 #[v,.pointer (some ⟨q,0,none⟩),.slice A n c] w (FedS B q (PA.feed P l).1 vp vt (SN.Ck s (PA.feed P l).2) w):=by
 obtain⟨x,rfl,hg⟩:=h
 obtain⟨A0,cp,rfl⟩:=Af hg
 have HG:=hide hg
 have hqw:=hP.lt
 have hlen:l.length=n:=by have:=hA.1;simpa [u8s] using this
 have FD:=fun w' (hb:Below w.heap.size w w')=>Zy B q P vp vt A n c l w' (hP.below hb) hk hpp ((hA.below hb).more hb.size) hl (by omega) hL hB (ht.keep hb)
 have hfit:=PA.W9 hk l hl
 have hel:=PA.RN P l
 have HV: ∀b,vp.ownBlock=some b->B<=b/\b<w.heap.size:=fun b hb=>by
  obtain⟨_,_,_,_,_,hq⟩:=Bj hP.par
  exact hq b hb
 have HV2: ∀b,vt.ownBlock=some b->B<=b/\b<w.heap.size:=fun b hb=>by
  obtain⟨_,_,_,_,_,hq⟩:=Bj hP.txt
  exact hq b hb
 generalize (PA.feed P l).2=evs at FD hfit hel⊢
 generalize (PA.feed P l).1=P' at FD⊢
 obtain⟨T,hT0⟩: ∃T,SN.Ck s evs=T:=⟨_,rfl⟩
 rw [hT0]
 have AL:=hide (fun (w':World) (v':Value) (A':Option Addr) (c':Nat) (M:List (PA.Ev × Value)) (hM:M.map (·.1)=evs) (hE:Lh w' A' M.length M) (hc:M.length<=c') (hC: ∀p∈M,R3 p.2) (hT':Gh w') (h:IsS w' s v')=>(show Calls Tryz.prog 24 #[v',.slice A' M.length c'] w' (BF w' T) from by
  have hml:M.length<=3*l.length:=by rw [<- List.length_map (f:=(·.1)),hM];exact hel
  have:=kL s v' A' M.length c' M w' hs hE (by omega) hc (fun p hp=>hfit p.1 (by rw [<- hM];exact List.mem_map_of_mem hp)) hC hT' h
  rw [hM,hT0] at this
  exact this))
 have FDH:=hide FD
 have HFIT:=hide hfit
 have hlow:=hP.low
 have HP:=hide hP
 have SAFE:=hide (fun (w2 w3:World) (hb:Below w.heap.size w w2) (hk:Kept [some q,vp.ownBlock,vt.ownBlock] w2 w3)=>(show Gh w3 from hT w3 ((hb.mono (by omega)).trans (hk.toBelow (Nat.le_trans (by omega) hb.size) (fun k hh=>by
  simp only [List.mem_cons,List.not_mem_nil,or_false] at hh
  rcases hh with e | e | e
  ·cases e;exact hlow
  ·exact(HV k e.symm).1
  ·exact(HV2 k e.symm).1)))))
 clear hs hg hA hL hP ht FD hfit hel hT hT0
 go_enter Tryz.func26,Tryz.ntmps26
 go_upto_region 1 with (first | (refine BS rfl _ rfl rfl ?_;intro g w1 hB1 hb1 hg1) | (refine BX rfl rfl ?_;intro gR w2 csR hR hsR hb2 hgR))
 have HB2:=hide (hB1.below hb2 hB1.lt)
 have HW2:=hide (hb1.trans (hb2.mono hb1.size))
 have HR2:=hide hR
 have HG2:=hide (HG.out.low HW2.out)
 have nW:=hb1.size
 have hne:gR≠g:=by have:=hB1.lt;omega
 have Am:w.heap.size<=gR:=by omega
 have hgO:some g∉ [some q,vp.ownBlock,vt.ownBlock] :=by
  simp only [List.mem_cons,List.not_mem_nil,or_false,not_or]
  refine⟨by simp;omega,fun e=>?_,fun e=>?_⟩
  ·have:=(HV g e.symm).2;omega
  ·have:=(HV2 g e.symm).2;omega
 have hrO:some gR∉ [some q,vp.ownBlock,vt.ownBlock] :=by
  simp only [List.mem_cons,List.not_mem_nil,or_false,not_or]
  refine⟨by simp;omega,fun e=>?_,fun e=>?_⟩
  ·have:=(HV gR e.symm).2;omega
  ·have:=(HV2 gR e.symm).2;omega
 clear hB1 hb1 hb2 hR HG hgR
 go_simp
 refine Io (n:=12) (n0:=5) (Es w2 (.agg (scA (.slice A0 (s.g.rows*s.g.AB) cp) s)) (.pointer (some ⟨q,0,none⟩)) (.slice A n c) (fun v w3=> ∃A' c' M vp' vt',v=.slice A' M.length c'/\M.map (·.1)=evs/\Lh w3 A' M.length M/\M.length<=c'/\(∀p∈M,R3 p.2)/\PB w3 B q P' vp' vt'/\Kept [some q,vp.ownBlock,vt.ownBlock] w2 w3/\From w2 [vp.ownBlock] vp'.ownBlock/\From w2 [vt.ownBlock] vt'.ownBlock) (fun v w3=> ∃vp' vt',EH T v w3/\PB w3 B q P' vp' vt'/\Kept [some q,vp.ownBlock,vt.ownBlock] w2 w3/\From w2 [vp.ownBlock] vp'.ownBlock/\From w2 [vt.ownBlock] vt'.ownBlock)) (by kernel_rfl) (by kernel_rfl) (by kernel_rfl) rfl (by kernel_rfl) (fun L u u' w' h hj=>hj.same h) (Ph ⟨?_,?_,?_,?_,?_⟩) ?_ ⟨fun h=>(by cases h),fun h=>(by cases h),fun h=>(by cases h),fun _=>⟨rfl,(Below.refl _ _).drew⟩,fun h=>(by cases h),fun h=>(by cases h)⟩
 ·intro L a w' hL hsame hsz hJ AJ hcl
  have e0:a.eval (.tmp 3)=(.pointer (some ⟨g,0,none⟩)):=AZ hsame (by kernel_rfl)
  have hx:Box w' g 43 (scA (.slice A0 (s.g.rows*s.g.AB) cp) s):=by
   cases h3:L 3 with
   | false=>exact HB2.out.below (hJ.2.2.2.1 h3).2 HB2.out.lt
   | true=>
    cases h4:L 4 with
    | false=>
     obtain⟨A',c',M,vp',vt',_,_,_,_,_,_,hkk,_⟩:=hJ.2.2.2.2.1 h3 h4
     exact HB2.out.kept hkk hgO
    | true=>
     obtain⟨vp',vt',_,_,hkk,_⟩:=hJ.2.2.2.2.2 h4
     exact HB2.out.kept hkk hgO
  exact Step.val _ rfl rfl (AV rfl) (.agg (scA (.slice A0 (s.g.rows*s.g.AB) cp) s)) w' (fun ρ hρ=>BO hx rfl ρ _ rfl ((hρ _).symm.trans e0)) hJ.put0
 ·intro L a w' hL hsame hsz hJ AJ hcl
  have e0:a.eval (.tmp 1)=(.pointer (some ⟨q,0,none⟩)):=AZ hsame (by kernel_rfl)
  refine Step.val _ rfl rfl (AV rfl) (.pointer (some ⟨q,0,none⟩)) w' (fun ρ hρ=>?_) hJ.Jc
  rw [hρ] at e0
  clear hJ hsame AJ hcl hρ hsz
  go_simp
 ·intro L a w' hL hsame hsz hJ AJ hcl
  have e0:a.eval (.tmp 2)=(.slice A n c):=AZ hsame (by kernel_rfl)
  refine Step.val _ rfl rfl (AV rfl) (.slice A n c) w' (fun ρ hρ=>?_) hJ.put2
  rw [hρ] at e0
  clear hJ hsame AJ hcl hρ hsz
  go_simp
 ·intro L a w' hL hsame hsz hJ AJ hcl
  have e0:a.eval (.tmp 8)=(.pointer (some ⟨q,0,none⟩)):=AQ (j:=1) (by kernel_rfl) (hJ.2.1 (AX AJ 1 (by kernel_rfl)))
  have e1:a.eval (.tmp 9)=(.slice A n c):=AQ (j:=2) (by kernel_rfl) (hJ.2.2.1 (AX AJ 2 (by kernel_rfl)))
  have hb3:=(hJ.2.2.2.1 hL).2
  refine Step.call _ rfl rfl (AV rfl) 59 #[.pointer (some ⟨q,0,none⟩),.slice A n c] (fun ρ hρ=>?_) ?_
  ·rw [hρ] at e0 e1
   have ef:ρ (.func 59)=.func (.func 59) #[] #[] :=(hρ _).symm
   clear hJ hsame AJ hcl hρ hsz hb3
   go_simp
  ·refine(FDH.out w' (HW2.out.trans (hb3.mono HW2.out.size))).mono ?_
   rintro e w3 ⟨v',vp',vt',M,rfl,hM,hPB,hown,hOM,hD,hK,hV,hF1,hF2⟩
   obtain⟨A',c',rfl,hcc,_⟩:=Bj hown
   refine⟨_,rfl,hJ.put3 hL ⟨A',c',M,vp',vt',rfl,hM,Zz hown hOM (fun p hp=>Nat.le_trans (HFIT.out p.1 (by rw [<- hM];exact List.mem_map_of_mem hp)).len (by omega)),hcc,fun p hp=>?_,hPB,(Kept.of_below hb3).trans hK (fun x hx=>From.mem hx),hF1.later hb3.size,hF2.later hb3.size⟩⟩
   intro Ap k cp' e
   have:=hOM p hp
   rw [e] at this
   obtain⟨A2,c2,e2,hc2,_⟩:=Bj this
   cases e2
   exact hc2
 ·intro L a w' hL hsame hsz hJ AJ hcl
  have h3:=AX AJ 3 (by kernel_rfl)
  obtain⟨A',c',M,vp',vt',hv3,hM,hE,hcc,hC,hPB,hkk,hF1,hF2⟩:=hJ.2.2.2.2.1 h3 hL
  have e0:a.eval (.tmp 7)=(.agg (scA (.slice A0 (s.g.rows*s.g.AB) cp) s)):=AQ (j:=0) (by kernel_rfl) (hJ.1 (AX AJ 0 (by kernel_rfl)))
  have e1:a.eval (.tmp 10)=(.slice A' M.length c'):=AQ (j:=3) (by kernel_rfl) hv3
  have hT':Gh w':=SAFE.out w2 w' HW2.out hkk
  have hG':IsG w' s.g (gv s.g.rows s.g.AB (.slice A0 (s.g.rows*s.g.AB) cp)):=UZ HG2.out (HP.out.below HW2.out) hkk
  refine Step.call _ rfl rfl (AV rfl) 24 #[.agg (scA (.slice A0 (s.g.rows*s.g.AB) cp) s),.slice A' M.length c'] (fun ρ hρ=>?_) ?_
  ·rw [hρ] at e0 e1
   have ef:ρ (.func 24)=.func (.func 24) #[] #[] :=(hρ _).symm
   clear hJ hsame AJ hcl hρ hsz hv3 hM hE hcc hC hPB hkk hF1 hF2 hT' hG'
   go_simp
  ·refine(AL.out w' _ A' c' M hM hE hcc hC hT' ⟨_,rfl,hG'⟩).mono ?_
   rintro e w3 ⟨v3,rfl,hi3,hb3⟩
   exact⟨_,rfl,hJ.put4 h3 ⟨vp',vt',Er hi3,hPB.below hb3,hkk.below hb3,hF1,hF2⟩⟩
 ·intro L a w' hsame hsz hJ hall
  obtain⟨vp',vt',hSV,hPB,hkk,hF1,hF2⟩:=hJ.2.2.2.2.2 (hall 4 (by decide))
  obtain⟨u,hu,ha⟩:=EY hsame
  rw [ha]
  obtain⟨A8,c8,f4,hi8⟩:=(show EH T (u 4) w' by rw [hu 4];exact hSV)
  have HR3:=hide (HR2.out.kept hkk hrO)
  clear hSV hJ hsame hu ha hall
  change wpList _ _ _ _ (Act.put (Act.put (Act.put (Act.put (Act.put (Act.put (BD _ u 0 _) (some 7) (u 0)) (some 8) (u 1)) (some 9) (u 2)) (some 10) (u 3)) (some 11) (u 4)) none (u 5)) w'
  simp only [BD]
  generalize u 0=z0
  generalize u 1=z1
  generalize u 2=z2
  generalize u 3=z3
  generalize u 4=z4 at f4⊢
  generalize u 5=z5
  subst f4
  simp only [List.drop_succ_cons,List.drop_zero]
  refine AU (x:=.slice A8 (T.g.rows*T.g.AB) c8) (s:=T) HR3.out hsR rfl _ _ rfl (by go_simp) (by go_simp) rfl ?_
  intro w8 hB8 hk8 hs8
  change Exit.then _ _ Exit.normal _ _
  go_simp
  go_step
  go_wp2_with fail
  refine bodyPost_ret (CJ rfl rfl hB8) rfl ⟨_,vp',vt',rfl,⟨_,rfl,hi8.kept HR3.out (by decide) hk8⟩,hPB.kept hk8 (by simp;omega) (fun b hb hm=>?_) (fun b hb hm=>?_),((Kept.of_below HW2.out).trans hkk (fun x hx=>From.mem hx)).trans hk8 (fun x hx=>by simp at hx;subst hx;exact fun h e=>.inr (by cases e;exact Am)),hF1.later HW2.out.size,hF2.later HW2.out.size⟩
  ·simp only [List.mem_singleton,Option.some.injEq] at hm
   subst hm
   rcases hF1 b hb with e | e
   ·simp only [List.mem_singleton] at e
    have:=(HV b e.symm).2
    omega
   ·have:=HR2.out.lt
    omega
  ·simp only [List.mem_singleton,Option.some.injEq] at hm
   subst hm
   rcases hF2 b hb with e | e
   ·simp only [List.mem_singleton] at e
    have:=(HV2 b e.symm).2
    omega
   ·have:=HR2.out.lt
    omega
end Go.Proofs.YtoaabebgmdbjeaaGreatDoor
namespace Go.Proofs.YtoaabebgmdbjeaaGreatDoor
open Go.RowKit
namespace PG
def Gone (all:Bool) (r c k y x:Nat):Prop:=((k=0/\(r<y\/(y=r/\c<=x)))\/(k=1/\(y<r\/(y=r/\x<=c)))\/k=2)/\(all=true\/y=r)
instance (all:Bool) (r c k y x:Nat):Decidable (Gone all r c k y x):=inferInstanceAs (Decidable (_/\_))
def Near (r c y x:Nat):Prop:=y=r/\(x+1=c\/x=c+1)
instance (r c y x:Nat):Decidable (Near r c y x):=inferInstanceAs (Decidable (_/\_))
end PG
namespace SN
end SN
end Go.Proofs.YtoaabebgmdbjeaaGreatDoor
namespace Go.Proofs.YtoaabebgmdbjeaaGreatDoor
open Go Go.RowKit
end Go.Proofs.YtoaabebgmdbjeaaGreatDoor
namespace Go.Proofs.YtoaabebgmdbjeaaGreatDoor
open Go Go.RowKit
def EvN (kd fn:Int) (n:Nat) (cs:Array Value) (v:Value) (w:World):Prop:= ∃g,v=.agg #[.int .i64 kd,.int .i32 0,.int .u8 0,.int .u8 0,.int .u8 fn,.slice (some ⟨g,0,none⟩) n n,.string {data:= #[]}] /\Box w g 3 cs
theorem EvN.stays {Ts:List TypeId} {kd fn:Int} {n:Nat} {cs:Array Value} (h:Ts.all (fun x=>x !=3)=true):Fz Ts (EvN kd fn n cs):=
 ⟨fun v w w' ⟨g,h1,h2⟩ hb=>⟨g,h1,h2.below hb h2.lt⟩,fun v w w' g' T' cs' ⟨g,h1,h2⟩ hb hT hk=>⟨g,h1,h2.kept hk (fun hm=>by
  have e:g=g':=by simpa using hm
  subst e
  unfold Box at h2 hb
  rw [hb] at h2
  simp only [Option.some.injEq,Obj.cells.injEq] at h2
  have:=List.all_eq_true.1 h _ hT
  simp [h2.2.1] at this)⟩⟩
theorem kM (s:SN.Sc) (v:Value) (kd fn:Int) (w:World) (hs:SN.Ad s) (hk:kd≠1) (hT:Gh w) (h:IsS w s v):
  Calls Tryz.prog 15 #[v,.agg #[.int .i64 kd,.int .i32 0,.int .u8 0,.int .u8 0,.int .u8 fn,.slice none 0 0,.string {data:= #[]}]] w (BF w (SN.doS s kd 0 0 0 fn [])):=
 bG s v kd 0 0 0 fn none 0 0 0 _ [] w hs (Seen.PZ _ _ _) (Nat.zero_le _) (by omega) (Nat.le_refl _) (fun x hx=>by cases hx) (fun e=>absurd e hk) hT h
end Go.Proofs.YtoaabebgmdbjeaaGreatDoor
namespace Go.Proofs.YtoaabebgmdbjeaaGreatDoor
open Go Go.RowKit
def Ki:List Int:= [97,98,99,100]
def Kj:List Int:= [27,91,72,27,91,80]
theorem Ua:PA.feed PA.s0 Ki=(PA.s0, [PA.pr 97,PA.pr 98,PA.pr 99,PA.pr 100]):=by kernel_rfl
theorem Ub:PA.feed PA.s0 Kj=(PA.s0, [⟨4,0,0,0,72, [], []⟩,⟨4,0,0,0,80, [], []⟩]):=by kernel_rfl
theorem bH: ∀x∈Ki,0<=x/\x<256:=by decide
theorem bI: ∀x∈Kj,0<=x/\x<256:=by decide
namespace SN
def srA:Sc:=Ck (full 2 3) [PA.pr 97,PA.pr 98,PA.pr 99,PA.pr 100]
def srB:Sc:=Ck srA [⟨4,0,0,0,72, [], []⟩,⟨4,0,0,0,80, [], []⟩]
theorem bJ:PG.text (srA.g.f 0) srA.g.AB= [97,98,99] /\PG.text (srA.g.f 1) srA.g.AB= [100,32,32] /\srA.g.rows=2:=⟨by kernel_rfl,by kernel_rfl,by kernel_rfl⟩
theorem bL:PG.text (srB.g.f 0) srB.g.AB= [98,99,32] /\srB.row=0/\srB.g.rows=2:=⟨by kernel_rfl,by kernel_rfl,by kernel_rfl⟩
theorem bM:Ad (full 2 3)/\Ad srA/\Ad srB:=by
 have h:=IC (R:=2) (K:=3) (by decide) (by decide) (by decide) (by decide)
 exact⟨h,Gs h _,Gs (Gs h _) _⟩
end SN
theorem EO (w:World) (hT:Gh w) (ht:Fp w):Calls Tryz.prog 19 #[] w fun e w'=>e=.returned (.bool true)/\Below w.heap.size w w':=by
 obtain⟨R0,RA,RB⟩:=SN.bM
 obtain⟨a1,a2,a3⟩:=SN.bJ
 obtain⟨b1,b2,b3⟩:=SN.bL
 have NW:=hide (fun w'=>MO 2 3 2 3 rfl rfl (by omega) (by omega) w')
 have h2:=ht.lt
 have FA:=hide (fun w' v A (hw:Below w.heap.size w w') (hP:PB w' w.heap.size w.heap.size PA.s0 (.slice none 0 0) (.slice none 0 0)) (hA:Seen w' w'.heap.size A 4 (u8s Ki)) (hL: ∀ad,A=some ad->some ad.block∉ [some w.heap.size,(.slice none 0 0:Value).ownBlock,(.slice none 0 0:Value).ownBlock]) h=>
  R4 w.heap.size w.heap.size PA.s0 (.slice none 0 0) (.slice none 0 0) (SN.full 2 3) v A 4 4 Ki w' R0 hP PA.lG (by decide) hA bH (by omega) (fun _=>hL) h2 (ht.keep hw) (fun w2 hb2=>hT.keep (hw.trans hb2)) h)
 have FB:=hide (fun w' v A (hw:Below w.heap.size w w') (hP:PB w' w.heap.size w.heap.size PA.s0 (.slice none 0 0) (.slice none 0 0)) (hA:Seen w' w'.heap.size A 6 (u8s Kj)) (hL: ∀ad,A=some ad->some ad.block∉ [some w.heap.size,(.slice none 0 0:Value).ownBlock,(.slice none 0 0:Value).ownBlock]) h=>
  R4 w.heap.size w.heap.size PA.s0 (.slice none 0 0) (.slice none 0 0) SN.srA v A 6 6 Kj w' RA hP PA.lG (by decide) hA bI (by omega) (fun _=>hL) h2 (ht.keep hw) (fun w2 hb2=>hT.keep (hw.trans hb2)) h)
 rw [Ua] at FA
 rw [Ub] at FB
 have HSA:=hide (show SN.Ck (SN.full 2 3) [PA.pr 97,PA.pr 98,PA.pr 99,PA.pr 100] =SN.srA from rfl)
 have HSB:=hide (show SN.Ck SN.srA [⟨4,0,0,0,72, [], []⟩,⟨4,0,0,0,80, [], []⟩] =SN.srB from rfl)
 simp only [HSA.out] at FA
 simp only [HSB.out] at FB
 clear HSA HSB
 generalize SN.srB=TB at FB b1 b2 b3 RB
 generalize SN.srA=TA at FA FB a1 a2 a3 RA
 have TX0:=hide (fun (w':World) v (h:IsG w' TA.g v)=>TF (G:=TA.g) RA.g h 0 (by omega))
 have TX1:=hide (fun (w':World) v (h:IsG w' TA.g v)=>TF (G:=TA.g) RA.g h 1 (by omega))
 have TX2:=hide (fun (w':World) v (h:IsG w' TB.g v)=>TF (G:=TB.g) RB.g h 0 (by omega))
 rw [a1] at TX0
 rw [a2] at TX1
 rw [b1] at TX2
 have EB:=hide b2
 have STR0:=hide (show strOfNums [97,98,99] ={data:= #[97,98,99]} from rfl)
 have STR1:=hide (show strOfNums [100,32,32] ={data:= #[100,32,32]} from rfl)
 have STR2:=hide (show strOfNums [98,99,32] ={data:= #[98,99,32]} from rfl)
 have LO0:=hide (Below.refl w.heap.size w)
 have cs:=Tz
 clear hT ht h2 a1 a2 a3 b1 b2 b3 R0 RA RB
 go_enter Tryz.func19,Tryz.ntmps19
 go_wp2_with fail
 refine(Zx _).mono ?_
 rintro e w1 ⟨rfl,rfl⟩
 have hP:=nV w w.heap.size (Nat.le_refl _)
 have bel:Below w.heap.size w (w.alloc (.cells (EG PA.s0 (.slice none 0 0) (.slice none 0 0)) 99)):=(Below.refl _ _).alloc (Nat.le_refl _) _
 generalize w.alloc (.cells (EG PA.s0 (.slice none 0 0) (.slice none 0 0)) 99)=w1 at hP bel⊢
 have HP1:=hide hP
 clear hP
 have LO1:=hide (LO0.out.trans (bel.mono LO0.out.size))
 clear LO0 bel
 go_wp2_with fail
 refine(NW.out _).mono ?_
 rintro e wb0 ⟨v0,rfl,⟨x0,rfl,hg0⟩,hb0⟩
 have HP2:=hide (HP1.out.below hb0)
 clear HP1
 have LO2:=hide (LO1.out.trans (hb0.mono LO1.out.size))
 clear LO1 hb0
 obtain⟨A0,c0,rfl⟩:=Af hg0
 have oN:=hide hg0
 clear hg0
 go_wp2_with fail
 have hS2:Seen (wb0.alloc (.cells (u8s Ki).toArray 5 (4,5))) (wb0.alloc (.cells (u8s Ki).toArray 5 (4,5))).heap.size (some ⟨wb0.heap.size,0,none⟩) 4 (u8s Ki):=Li rfl (by simp) rfl (fun j u h=>by simpa using h)
 have bN:Below wb0.heap.size wb0 (wb0.alloc (.cells (u8s Ki).toArray 5 (4,5))):=(Below.refl _ _).alloc (Nat.le_refl _) _
 have hlt2:=LO2.out.size
 have hpl2:=HP2.out.lt
 refine(FA.out (wb0.alloc (.cells (u8s Ki).toArray 5 (4,5))) _ _ (LO2.out.trans (bN.mono LO2.out.size)) (HP2.out.below bN) hS2 (fun ad h=>by cases h;simp [Value.ownBlock];omega) ⟨_,rfl,oN.out.low bN⟩).mono ?_
 rintro e wf2 ⟨vf2,vp,vt,rfl,⟨x2,rfl,hg2⟩,kN,rz,_,_⟩
 obtain rfl:vp=.slice none 0 0:=kN.pn rfl
 obtain rfl:vt=.slice none 0 0:=kN.tn rfl
 have HP3:=hide kN
 have oO:Kept [some w.heap.size] wb0 wf2:=(Kept.of_below bN).trans rz (fun x hx=>by
  simp [Value.ownBlock] at hx
  rcases hx with rfl | rfl
  ·exact From.mem (by simp)
  ·exact fun h e=>by cases e)
 clear kN hS2 hlt2 rz bN
 have r9:=hide (oN.out.kept HP2.out.box (by decide) oO)
 have LO3:=hide (LO2.out.trans (oO.toBelow LO2.out.size (fun k hh=>by simp at hh;omega)))
 clear oN LO2 oO hpl2 HP2
 obtain⟨A2,c2,rfl⟩:=Af hg2
 have sD:=hide hg2
 clear hg2
 go_upto_region 5 with (first | (refine BX rfl rfl ?_;intro gs sF sG Lu bO LG bP) | (refine AU Lu bO rfl _ _ rfl rfl rfl rfl ?_;intro Nu R5 LH bQ))
 have bS:w.heap.size<=gs:=by have:=LO3.out.size;omega
 have VZ:w.heap.size≠gs:=by have:=HP3.out.lt;omega
 have HP4:=hide ((HP3.out.below LG).kept LH (by simp;exact VZ) (by simp [Value.ownBlock]) (by simp [Value.ownBlock]))
 clear HP3
 have sH:=hide (r9.out.low LG)
 have sI:=hide (sD.out.low LG)
 have LO4:=hide (LO3.out.trans (LG.mono LO3.out.size))
 clear r9 sD LO3 LG
 have sJ:=hide (sH.out.kept Lu (by decide) LH)
 have oP:=hide (sI.out.kept Lu (by decide) LH)
 have LO5:=hide (LO4.out.trans (LH.toBelow LO4.out.size (fun k hh=>by simp at hh;omega)))
 clear sH sI LO4
 have Kk:=hide R5
 clear R5 LH Lu bP bQ
 go_simp
 go_wp2_with (refine AY Kk.out rfl _ rfl rfl ?_)
 have hS3:Seen (Nu.alloc (.cells (u8s Kj).toArray 5 (6,7))) (Nu.alloc (.cells (u8s Kj).toArray 5 (6,7))).heap.size (some ⟨Nu.heap.size,0,none⟩) 6 (u8s Kj):=Li rfl (by simp) rfl (fun j u h=>by simpa using h)
 have bT:Below Nu.heap.size Nu (Nu.alloc (.cells (u8s Kj).toArray 5 (6,7))):=(Below.refl _ _).alloc (Nat.le_refl _) _
 have hlt3:=LO5.out.size
 have hpl3:=HP4.out.lt
 refine(FB.out (Nu.alloc (.cells (u8s Kj).toArray 5 (6,7))) _ _ (LO5.out.trans (bT.mono LO5.out.size)) (HP4.out.below bT) hS3 (fun ad h=>by cases h;simp [Value.ownBlock];omega) ⟨_,rfl,oP.out.low bT⟩).mono ?_
 rintro e wf3 ⟨vf3,vp,vt,rfl,⟨x3,rfl,hg3⟩,kP,sM,_,_⟩
 obtain rfl:vp=.slice none 0 0:=kP.pn rfl
 obtain rfl:vt=.slice none 0 0:=kP.tn rfl
 have HP5:=hide kP
 have bU:Kept [some w.heap.size] Nu wf3:=(Kept.of_below bT).trans sM (fun x hx=>by
  simp [Value.ownBlock] at hx
  rcases hx with rfl | rfl
  ·exact From.mem (by simp)
  ·exact fun h e=>by cases e)
 clear kP hS3 hlt3 sM bT
 have QN:=hide (Kk.out.kept bU (by simp;exact Ne.symm VZ))
 have sN:=hide (sJ.out.kept HP4.out.box (by decide) bU)
 have sO:=hide (oP.out.kept HP4.out.box (by decide) bU)
 have LO6:=hide (LO5.out.trans (bU.toBelow LO5.out.size (fun k hh=>by simp at hh;omega)))
 clear Kk sJ oP LO5 bU hpl3 HP4
 obtain⟨A3,c3,rfl⟩:=Af hg3
 have sP:=hide hg3
 clear hg3
 go_upto_region 6 with (first | (refine BX rfl rfl ?_;intro gt wagt csgt OM oQ LJ oU) | (refine AU OM oQ rfl _ _ rfl rfl rfl rfl ?_;intro wsgt bV LM oV))
 have Nv:gs≠gt:=by have:=QN.out.lt;omega
 have sQ:w.heap.size<=gt:=by have:=LO6.out.size;omega
 have kQ:w.heap.size≠gt:=by have:=HP5.out.lt;omega
 have HP6:=hide ((HP5.out.below LJ).kept LM (by simp;exact kQ) (by simp [Value.ownBlock]) (by simp [Value.ownBlock]))
 clear HP5
 have bW:=hide (QN.out.below LJ QN.out.lt)
 have sS:=hide (sN.out.low LJ)
 have sU:=hide (sO.out.low LJ)
 have sV:=hide (sP.out.low LJ)
 have LO7:=hide (LO6.out.trans (LJ.mono LO6.out.size))
 clear QN sN sO sP LO6 LJ
 have Lv:=hide (bW.out.kept LM (by simp;first | exact Nv | exact Ne.symm bX))
 have sW:=hide (sS.out.kept OM (by decide) LM)
 have oW:=hide (sU.out.kept OM (by decide) LM)
 have sZ:=hide (sV.out.kept OM (by decide) LM)
 have LO8:=hide (LO7.out.trans (LM.toBelow LO7.out.size (fun k hh=>by simp at hh;omega)))
 clear bW sS sU sV LO7
 have Nw:=hide bV
 clear bV LM OM oU oV
 go_simp
 have Ny:=(show _=some (.int .i64 (TA.g.rows:Nat):Value) from Lv.out.c0)
 have Nz:=(show _=some (.int .i64 (TA.g.AB:Nat):Value) from Lv.out.c1)
 have Uc:=(show _=some (.slice A2 (TA.g.rows*TA.g.AB) c2:Value) from Lv.out.c2)
 go_wp2_with fail
 clear Ny Nz Uc
 refine(TX0.out _ _ oW.out).mono ?_
 rintro e wx1 ⟨rfl,hx1⟩
 have N7:=hide (Lv.out.below hx1 Lv.out.lt)
 have QO:=hide (Nw.out.below hx1 Nw.out.lt)
 have sj:=hide (sW.out.low hx1)
 have oZ:=hide (oW.out.low hx1)
 have Lp:=hide (sZ.out.low hx1)
 have LO9:=hide (LO8.out.trans (hx1.mono LO8.out.size))
 clear Lv Nw sW oW sZ LO8 hx1
 have Ny:=(show _=some (.int .i64 (TA.g.rows:Nat):Value) from N7.out.c0)
 have Nz:=(show _=some (.int .i64 (TA.g.AB:Nat):Value) from N7.out.c1)
 have Uc:=(show _=some (.slice A2 (TA.g.rows*TA.g.AB) c2:Value) from N7.out.c2)
 simp only [STR0.out]
 go_wp2_with fail
 clear Ny Nz Uc
 refine(TX1.out _ _ oZ.out).mono ?_
 rintro e wx2 ⟨rfl,hx2⟩
 have YG:=hide (N7.out.below hx2 N7.out.lt)
 have QS:=hide (QO.out.below hx2 QO.out.lt)
 have su:=hide (sj.out.low hx2)
 have sw:=hide (oZ.out.low hx2)
 have Qz:=hide (Lp.out.low hx2)
 have Ud:=hide (LO9.out.trans (hx2.mono LO9.out.size))
 clear N7 QO sj oZ Lp LO9 hx2
 have og:=(show _=some (.int .i64 (TB.g.rows:Nat):Value) from QS.out.c0)
 have oh:=(show _=some (.int .i64 (TB.g.AB:Nat):Value) from QS.out.c1)
 have om:=(show _=some (.slice A3 (TB.g.rows*TB.g.AB) c3:Value) from QS.out.c2)
 simp only [STR1.out]
 go_wp2_with fail
 clear og oh om
 refine(TX2.out _ _ Qz.out).mono ?_
 rintro e wx3 ⟨rfl,hx3⟩
 have kR:=hide (YG.out.below hx3 YG.out.lt)
 have YH:=hide (QS.out.below hx3 QS.out.lt)
 have HGf10:=hide (su.out.low hx3)
 have HGa9:=hide (sw.out.low hx3)
 have mI:=hide (Qz.out.low hx3)
 have kS:=hide (Ud.out.trans (hx3.mono Ud.out.size))
 clear YG QS su sw Qz Ud hx3
 have oo:=(show _=some (.int .i64 (0:Nat):Value) from(YH.out.c3).trans (by first | (rw [EB.out];done) | (rw [EB.out];rfl)))
 simp only [STR2.out]
 go_wp2_with fail
 clear oo
 go_ret
 exact⟨rfl,kS.out⟩
end Go.Proofs.YtoaabebgmdbjeaaGreatDoor
namespace Go.Proofs.YtoaabebgmdbjeaaGreatDoor
open Go.RowKit
end Go.Proofs.YtoaabebgmdbjeaaGreatDoor
