/- A part of the proof: SourceUse, EraseSpec, ScrStore, SrcLaw, SeqKeep, SeqTst, StrCut. -/
import Derived.Test.YtoaabebgmdbjeaaGreatDoorRq25
set_option maxRecDepth 100000
set_option maxHeartbeats 16000000
set_option linter.unusedVariables false
namespace Go.Proofs.YtoaabebgmdbjeaaGreatDoor
open Go Go.RowKit
theorem jv (s t:SN.Sc) (v:Value) (rn pv it fn:Int) (Ae:Option Addr) (n c B:Nat) (tx:ByteArray) (l:List Int) (w:World) (hs:SN.Ad s) (hl:Seen w B Ae n (l.map (Value.int .i64))) (hB:B<=w.heap.size) (hn:n<=100) (hnc:n<=c) (hlb: ∀x∈l, -1<=x/\x<=65535) (hr:0<=rn/\rn<=1114111) (hT:I7 w) (ht:SN.Jm s rn=t) (h:IsS w s v):Calls Tryz.prog 58 #[v,.agg #[.int .i64 1,.int .i32 rn,.int .u8 pv,.int .u8 it,.int .u8 fn,.slice Ae n c,.string tx]] w (Az w t):=by
 obtain⟨x,rfl,hg⟩:=h
 obtain⟨A,cp,rfl⟩:=Af hg
 have HG:=hide hg
 have hgr:=hs.g.2.1
 have hgc:=hs.g.2.2.2.1
 have hR1:=hs.g.1
 have hK1:=hs.g.2.2.1
 have hrow:=hs.row
 have CX:=hs.col
 have AT:=hide (fun w' v' (hb:Below w.heap.size w w') h=>(show Calls Tryz.prog 28 #[v',.int .i32 rn] w' (Az w' t) from ht▸XW s v' rn w' hs hr.1 hr.2 (hT.keep hb) h))
 clear ht hs hg hl hlb hT
 go_enter Tryz.func58,Tryz.ntmps58
 go_upto_region 1 with (refine Dq HG _ rfl rfl rfl _ rfl rfl (fun _=>rfl) rfl rfl ?_;intro g gE gR w2 csR hsR HB2 HE2 HW2 HR2 HG2 hne Fp Fq hg1 Aj)
 clear HG
 obtain⟨e0,e1,e2,e3,e4,e5,e6⟩:=HE2.out.Bu
 go_wp2_with (refine AU HB2.out rfl _ rfl rfl ?_)
 refine(AT.out _ _ HW2.out ⟨_,rfl,HG2.out⟩).mono (Au HR2 HW2 fun A7 c7 w7 HR7 HW7 HG7=>?_)
 clear e0 e1 e2 e3 e4 e5 e6
 clear HB2 HR2 HW2 HG2 HE2
 go_wp2_with (refine AQ HR7.out hsR rfl _ _ rfl rfl rfl rfl ?_;intro w8 hB8 hk8 hs8)
 exact BU rfl rfl rfl hB8 HG7 HR7 HW7 hk8 Aj
theorem jw (s t:SN.Sc) (v:Value) (rn pv it fn:Int) (Ae:Option Addr) (n c B:Nat) (tx:ByteArray) (l:List Int) (w:World) (hs:SN.Ad s) (hl:Seen w B Ae n (l.map (Value.int .i64))) (hB:B<=w.heap.size) (hn:n<=100) (hnc:n<=c) (hlb: ∀x∈l, -1<=x/\x<=65535) (hT:I7 w) (ht:SN.GV s fn=t) (h:IsS w s v):Calls Tryz.prog 58 #[v,.agg #[.int .i64 2,.int .i32 rn,.int .u8 pv,.int .u8 it,.int .u8 fn,.slice Ae n c,.string tx]] w (Az w t):=by
 obtain⟨x,rfl,hg⟩:=h
 obtain⟨A,cp,rfl⟩:=Af hg
 have HG:=hide hg
 have hgr:=hs.g.2.1
 have hgc:=hs.g.2.2.2.1
 have hR1:=hs.g.1
 have hK1:=hs.g.2.2.1
 have hrow:=hs.row
 have CX:=hs.col
 have AT:=hide (fun w' v' (hb:Below w.heap.size w w') h=>(show Calls Tryz.prog 100 #[v',.int .u8 fn] w' (Az w' t) from ht▸Z0 s v' fn w' hs (hT.nA.keep hb) h))
 clear ht hs hg hl hlb hT
 go_enter Tryz.func58,Tryz.ntmps58
 go_upto_region 1 with (refine Dq HG _ rfl rfl rfl _ rfl rfl (fun _=>rfl) rfl rfl ?_;intro g gE gR w2 csR hsR HB2 HE2 HW2 HR2 HG2 hne Fp Fq hg1 Aj)
 clear HG
 obtain⟨e0,e1,e2,e3,e4,e5,e6⟩:=HE2.out.Bu
 go_wp2_with (refine AU HB2.out rfl _ rfl rfl ?_)
 refine(AT.out _ _ HW2.out ⟨_,rfl,HG2.out⟩).mono (Au HR2 HW2 fun A7 c7 w7 HR7 HW7 HG7=>?_)
 clear e0 e1 e2 e3 e4 e5 e6
 clear HB2 HR2 HW2 HG2 HE2
 go_wp2_with (refine AQ HR7.out hsR rfl _ _ rfl rfl rfl rfl ?_;intro w8 hB8 hk8 hs8)
 exact BU rfl rfl rfl hB8 HG7 HR7 HW7 hk8 Aj
theorem jy (s t:SN.Sc) (v:Value) (rn pv it fn:Int) (Ae:Option Addr) (n c B:Nat) (tx:ByteArray) (l:List Int) (w:World) (hs:SN.Ad s) (hl:Seen w B Ae n (l.map (Value.int .i64))) (hB:B<=w.heap.size) (hn:n<=100) (hnc:n<=c) (hlb: ∀x∈l, -1<=x/\x<=65535) (hT:I7 w) (ht:SN.Fv s it fn=t) (h:IsS w s v):Calls Tryz.prog 58 #[v,.agg #[.int .i64 3,.int .i32 rn,.int .u8 pv,.int .u8 it,.int .u8 fn,.slice Ae n c,.string tx]] w (Az w t):=by
 obtain⟨x,rfl,hg⟩:=h
 obtain⟨A,cp,rfl⟩:=Af hg
 have HG:=hide hg
 have hgr:=hs.g.2.1
 have hgc:=hs.g.2.2.2.1
 have hR1:=hs.g.1
 have hK1:=hs.g.2.2.1
 have hrow:=hs.row
 have CX:=hs.col
 have AT:=hide (fun w' v' (hb:Below w.heap.size w w') h=>(show Calls Tryz.prog 101 #[v',.agg #[.int .i64 3,.int .i32 rn,.int .u8 pv,.int .u8 it,.int .u8 fn,.slice Ae n c,.string tx]] w' (Az w' t) from ht▸fQ s v' 3 rn pv it fn Ae n c tx w' hs h))
 clear ht hs hg hl hlb hT
 go_enter Tryz.func58,Tryz.ntmps58
 go_upto_region 1 with (refine Dq HG _ rfl rfl rfl _ rfl rfl (fun _=>rfl) rfl rfl ?_;intro g gE gR w2 csR hsR HB2 HE2 HW2 HR2 HG2 hne Fp Fq hg1 Aj)
 clear HG
 obtain⟨e0,e1,e2,e3,e4,e5,e6⟩:=HE2.out.Bu
 go_wp2_with (refine AU HB2.out rfl _ rfl rfl ?_)
 refine(AT.out _ _ HW2.out ⟨_,rfl,HG2.out⟩).mono (Au HR2 HW2 fun A7 c7 w7 HR7 HW7 HG7=>?_)
 clear e0 e1 e2 e3 e4 e5 e6
 clear HB2 HR2 HW2 HG2 HE2
 go_wp2_with (refine AQ HR7.out hsR rfl _ _ rfl rfl rfl rfl ?_;intro w8 hB8 hk8 hs8)
 exact BU rfl rfl rfl hB8 HG7 HR7 HW7 hk8 Aj
theorem kC (s t:SN.Sc) (v:Value) (rn pv it fn:Int) (Ae:Option Addr) (n c B:Nat) (tx:ByteArray) (l:List Int) (w:World) (hs:SN.Ad s) (hl:Seen w B Ae n (l.map (Value.int .i64))) (hB:B<=w.heap.size) (hn:n<=100) (hnc:n<=c) (hlb: ∀x∈l, -1<=x/\x<=65535) (hT:I7 w) (ht:SN.XI s pv it fn l=t) (h:IsS w s v):Calls Tryz.prog 58 #[v,.agg #[.int .i64 4,.int .i32 rn,.int .u8 pv,.int .u8 it,.int .u8 fn,.slice Ae n c,.string tx]] w (Az w t):=by
 obtain⟨x,rfl,hg⟩:=h
 obtain⟨A,cp,rfl⟩:=Af hg
 have HG:=hide hg
 have hgr:=hs.g.2.1
 have hgc:=hs.g.2.2.2.1
 have hR1:=hs.g.1
 have hK1:=hs.g.2.2.1
 have hrow:=hs.row
 have CX:=hs.col
 have AT:=hide (fun w' v' (hb:Below w.heap.size w w') h=>(show Calls Tryz.prog 102 #[v',.agg #[.int .i64 4,.int .i32 rn,.int .u8 pv,.int .u8 it,.int .u8 fn,.slice Ae n c,.string tx]] w' (Az w' t) from ht▸gH s v' 4 rn pv it fn Ae n c B tx l w' hs (hl.below (hb.mono hB)) (Nat.le_trans hB hb.size) hn hnc hlb (hT.flags.keep hb) h))
 clear ht hs hg hl hlb hT
 go_enter Tryz.func58,Tryz.ntmps58
 go_upto_region 1 with (refine Dq HG _ rfl rfl rfl _ rfl rfl (fun _=>rfl) rfl rfl ?_;intro g gE gR w2 csR hsR HB2 HE2 HW2 HR2 HG2 hne Fp Fq hg1 Aj)
 clear HG
 obtain⟨e0,e1,e2,e3,e4,e5,e6⟩:=HE2.out.Bu
 go_wp2_with (refine AU HB2.out rfl _ rfl rfl ?_)
 refine(AT.out _ _ HW2.out ⟨_,rfl,HG2.out⟩).mono (Au HR2 HW2 fun A7 c7 w7 HR7 HW7 HG7=>?_)
 clear e0 e1 e2 e3 e4 e5 e6
 clear HB2 HR2 HW2 HG2 HE2
 go_wp2_with (refine AQ HR7.out hsR rfl _ _ rfl rfl rfl rfl ?_;intro w8 hB8 hk8 hs8)
 exact BU rfl rfl rfl hB8 HG7 HR7 HW7 hk8 Aj
theorem gI (s t:SN.Sc) (v:Value) (kd rn pv it fn:Int) (Ae:Option Addr) (n c B:Nat) (tx:ByteArray) (l:List Int) (w:World) (hs:SN.Ad s) (hl:Seen w B Ae n (l.map (Value.int .i64))) (hB:B<=w.heap.size) (hn:n<=100) (hnc:n<=c) (hlb: ∀x∈l, -1<=x/\x<=65535) (hk:kd≠1/\kd≠2/\kd≠3/\kd≠4) (hT:I7 w) (ht:s=t) (h:IsS w s v):Calls Tryz.prog 58 #[v,.agg #[.int .i64 kd,.int .i32 rn,.int .u8 pv,.int .u8 it,.int .u8 fn,.slice Ae n c,.string tx]] w (Az w t):=by
 obtain⟨x,rfl,hg⟩:=h
 obtain⟨A,cp,rfl⟩:=Af hg
 have HG:=hide hg
 have hgr:=hs.g.2.1
 have hgc:=hs.g.2.2.2.1
 have hR1:=hs.g.1
 have hK1:=hs.g.2.2.1
 have hrow:=hs.row
 have CX:=hs.col
 have q1:(kd==1)=false:=by simp;omega
 have q2:(kd==2)=false:=by simp;omega
 have q3:(kd==3)=false:=by simp;omega
 have q4:(kd==4)=false:=by simp;omega
 clear hk
 subst ht
 clear hs hg hl hlb hT
 go_enter Tryz.func58,Tryz.ntmps58
 go_upto_region 1 with (refine Dq HG _ rfl rfl rfl _ rfl rfl (fun _=>rfl) rfl rfl ?_;intro g gE gR w2 csR hsR HB2 HE2 HW2 HR2 HG2 hne Fp Fq hg1 Aj)
 clear HG
 obtain⟨e0,e1,e2,e3,e4,e5,e6⟩:=HE2.out.Bu
 go_wp2_with (first | (refine AU HB2.out rfl _ rfl rfl ?_) | (refine AQ HR2.out hsR rfl _ _ rfl rfl rfl rfl ?_;intro w8 hB8 hk8 hs8))
 exact BU rfl rfl rfl hB8 HG2 HR2 HW2 hk8 Aj
theorem gJ (s:SN.Sc) (v:Value) (kd rn pv it fn:Int) (Ae:Option Addr) (n c B:Nat) (tx:ByteArray) (l:List Int) (w:World) (hs:SN.Ad s) (hl:Seen w B Ae n (l.map (Value.int .i64))) (hB:B<=w.heap.size) (hn:n<=100) (hnc:n<=c) (hlb: ∀x∈l, -1<=x/\x<=65535) (hr:kd=1->0<=rn/\rn<=1114111) (hT:I7 w) (h:IsS w s v):Calls Tryz.prog 58 #[v,.agg #[.int .i64 kd,.int .i32 rn,.int .u8 pv,.int .u8 it,.int .u8 fn,.slice Ae n c,.string tx]] w (Az w (SN.doS s kd rn pv it fn l)):=by
 unfold SN.doS
 by_cases h1:kd=1
 ·subst h1
  rw [if_pos rfl]
  exact jv s _ v rn pv it fn Ae n c B tx l w hs hl hB hn hnc hlb (hr rfl) hT rfl h
 rw [if_neg h1]
 by_cases h2:kd=2
 ·subst h2
  rw [if_pos rfl]
  exact jw s _ v rn pv it fn Ae n c B tx l w hs hl hB hn hnc hlb hT rfl h
 rw [if_neg h2]
 by_cases h3:kd=3
 ·subst h3
  rw [if_pos rfl]
  exact jy s _ v rn pv it fn Ae n c B tx l w hs hl hB hn hnc hlb hT rfl h
 rw [if_neg h3]
 by_cases h4:kd=4
 ·subst h4
  rw [if_pos rfl]
  exact kC s _ v rn pv it fn Ae n c B tx l w hs hl hB hn hnc hlb hT rfl h
 rw [if_neg h4]
 exact gI s _ v kd rn pv it fn Ae n c B tx l w hs hl hB hn hnc hlb ⟨h1,h2,h3,h4⟩ hT rfl h
def Ol (v:Value):Prop:= ∀A k c,v=.slice A k c->k<=c
theorem iN {A:Option Addr} {k c:Nat} (h:k<=c):Ol (.slice A k c):=fun _ _ _ e=>by
 cases e
 exact h
theorem SN.aB (s:SN.Sc) {M:List (PA.Ev × Value)} {j:Nat} {q:PA.Ev × Value} (h:M[j]? =some q):SN.Bf s ((M.take (j+1)).map (·.1))=SN.Rc (SN.Bf s ((M.take j).map (·.1))) q.1:=by
 rw [List.take_add_one,h]
 simp only [Option.toList_some,List.map_append,List.map_cons,List.map_nil]
 exact SN.NG s _ _
def VX (w:World) (A:Option Addr) (n:Nat) (M:List (PA.Ev × Value)):Prop:=
 M.length=n/\ ∀k p,M[k]? =some p-> ∃gb q,A=some ⟨gb,q,none⟩/\gb<w.heap.size/\(∀j u,(Fe p.1 p.2)[j]? =some u->w.cell? ⟨gb,q+k*7+j,none⟩=some u)/\
  ∃Ap cp,p.2=.slice Ap p.1.params.length cp/\Seen w w.heap.size Ap p.1.params.length (Br p.1.params)/\p.1.params.length<=1024
theorem Gp.whole {w:World} {A:Option Addr} {n:Nat} {M:List (PA.Ev × Value)} (h:Gp w A n M):VX w A n M:=
 ⟨h.1,fun k p hp=>by
  obtain⟨gb,h1,h2,h3,h4⟩:=h.2 k p hp
  exact⟨gb,0,h1,h2,fun j u hu=>by rw [Nat.zero_add];exact h3 j u hu,h4⟩⟩
theorem Gp.cut {w:World} {A A':Option Addr} {n d i m:Nat} {M:List (PA.Ev × Value)} (h:Gp w A n M) (hm:i-d=m) (hi:i<=n) (hA: ∀gb,A=some ⟨gb,0,none⟩->d<i->A'=some ⟨gb,d*7,none⟩):VX w A' m ((M.take i).drop d):=
 ⟨by rw [List.length_drop,List.length_take,h.1];omega,fun k p hp=>by
  rw [List.getElem?_drop,List.getElem?_take] at hp
  split at hp
  ·obtain⟨gb,h1,h2,h3,h4⟩:=h.2 (d+k) p hp
   exact⟨gb,d*7,hA gb h1 (by omega),h2,fun j u hu=>by rw [<- Nat.add_mul];exact h3 j u hu,h4⟩
  ·cases hp⟩
theorem VY (s:SN.Sc) (v:Value) (A:Option Addr) (n c:Nat) (M:List (PA.Ev × Value)) (w:World) (hs:SN.Ad s) (hE:VX w A n M) (hn:n<=1000000) (hF: ∀p∈M,(p.1.kind=1->0<=p.1.rune/\p.1.rune<=1114111)/\p.1.params.length<=100/\ ∀x∈p.1.params, -1<=x/\x<=65535) (hC: ∀p∈M,Ol p.2) (hT:I7 w) (h:IsS w s v):
  Calls Tryz.prog 24 #[v,.slice A n c] w (Az w (SN.Bf s (M.map (·.1)))):=by
 obtain⟨x,rfl,hg⟩:=h
 obtain⟨A0,cp,rfl⟩:=Af hg
 have HG:=hide hg
 have HS:=hide hs
 have HE:=hide hE
 have HF:=hide hF
 have HC:=hide hC
 have HT:=hide hT
 have SC:=hide (fun w' v' h=>FE s v' hs w' h)
 clear hs hg hE hF hC hT
 go_enter Tryz.func24,Tryz.ntmps24
 go_upto_region 1 with (refine BX HG _ rfl rfl rfl rfl rfl ?_;intro g gR w2 csR hsR HB2 HW2 HR2 HG2 hne hg1 Aj)
 clear HG
 go_wp2_with (refine AU HB2.out rfl _ rfl rfl ?_)
 refine(SC.out _ _ ⟨_,rfl,HG2.out⟩).mono ?_
 rintro e w3 ⟨v3,rfl,⟨x3,rfl,hg3⟩,hb3⟩
 obtain⟨A3,c3,rfl⟩:=Af hg3
 have HB3:=hide (HB2.out.below hb3 HB2.out.lt)
 have HR3:=hide (HR2.out.below hb3 HR2.out.lt)
 have HW3:=hide (HW2.out.trans (hb3.mono HW2.out.size))
 have HG3:=hide hg3
 clear hb3 hg3 HB2 HR2 HW2 HG2 SC
 go_upto_region 2 with (refine AQ HB3.out rfl rfl _ _ rfl rfl rfl rfl ?_;intro w4 hB4 hk4 hs4)
 have HB4:=hide hB4
 have HR4:=hide (HR3.out.kept hk4 (by simp;exact hne))
 have HW4:=hide (HW3.out.trans (hk4.toBelow HW3.out.size (fun k hh=>by simp at hh;omega)))
 have HG4:=hide (HG3.out.kept HB3.out (by decide) hk4)
 clear hB4 hk4 hs4 HB3 HR3 HW3 HG3
 go_wp2_with fail
 go_loopw [11] (fun i wr=> ∃j:Nat,j<=n/\i=.int .i64 j/\Hid (∃A0 c0,Am wr g (.slice A0 ((SN.Bf s ((M.take j).map (·.1))).g.rows*(SN.Bf s ((M.take j).map (·.1))).g.AB) c0) (SN.Bf s ((M.take j).map (·.1)))/\IsG wr (SN.Bf s ((M.take j).map (·.1))).g (gv (SN.Bf s ((M.take j).map (·.1))).g.rows (SN.Bf s ((M.take j).map (·.1))).g.AB (.slice A0 ((SN.Bf s ((M.take j).map (·.1))).g.rows*(SN.Bf s ((M.take j).map (·.1))).g.AB) c0)))/\Hid (Box wr gR 43 csR)/\Hid (Below w.heap.size w wr)) (fun i _=>n-(intOf i).toNat)
 case atStart=>exact⟨0,Nat.zero_le _,rfl,hide ⟨A3,c3,(show Am w4 g _ (SN.Bf s ((M.take 0).map (·.1))) from HB4.out),HG4.out⟩,HR4,HW4⟩
 case round=>
  obtain⟨j,hj,rfl,HX,HR,HW⟩:=hrel
  obtain⟨A5,c5,hB5,hG5⟩:=HX.out
  have HB5:=hide hB5
  have HG5:=hide hG5
  clear HX hB5 hG5 HB4 HR4 HW4 HG4
  by_cases hjn:j<n
  ·obtain⟨q,hq⟩: ∃q,M[j]? =some q:=⟨_,List.getElem?_eq_getElem (by rw [HE.out.1];exact hjn)⟩
   obtain⟨gb,o,hA',hgb,hcc,Ap,cp2,hpu,hps,hle⟩:=HE.out.2 j q hq
   have hfit:=HF.out q (List.mem_of_getElem? hq)
   have hcap:=HC.out q (List.mem_of_getElem? hq)
   have HTE:=SN.aB s hq
   obtain⟨e,u⟩:=q
   simp only [] at hcc hpu hps hle hfit hcap HTE
   subst hpu hA'
   obtain⟨e0,e1,e2,e3,e4,el,et⟩:=e
   simp only [] at hcc hps hle
   have b0:=HW.out
   have cb: ∀k u,(Fe ⟨e0,e1,e2,e3,e4,el,et⟩ (.slice Ap el.length cp2))[k]? =some u->wr.cell? ⟨gb,o+j*7+k,none⟩=some u:=fun k u hu=>(b0.cell (p:=⟨gb,o+j*7+k,none⟩) hgb).trans (hcc k u hu)
   have c0:wr.cell? ⟨gb,o+j*7,none⟩=some (.int .i64 e0):=cb 0 _ rfl
   have c1:wr.cell? ⟨gb,o+j*7+1,none⟩=some (.int .i32 e1):=cb 1 _ rfl
   have c2:wr.cell? ⟨gb,o+j*7+2,none⟩=some (.int .u8 e2):=cb 2 _ rfl
   have c3':wr.cell? ⟨gb,o+j*7+3,none⟩=some (.int .u8 e3):=cb 3 _ rfl
   have c4:wr.cell? ⟨gb,o+j*7+4,none⟩=some (.int .u8 e4):=cb 4 _ rfl
   have c5':wr.cell? ⟨gb,o+j*7+5,none⟩=some (.slice Ap el.length cp2):=cb 5 _ rfl
   have c6:wr.cell? ⟨gb,o+j*7+6,none⟩=some (.string (strOfNums et)):=cb 6 _ rfl
   have hl16:el.length<=100:=hfit.2.1
   have hcap2:el.length<=cp2:=hcap _ _ _ rfl
   clear hcap
   have MD:=fun (w':World) v' (hb:Below w.heap.size w w') h=>gJ (SN.Bf s ((M.take j).map (·.1))) v' e0 e1 e2 e3 e4 Ap el.length cp2 w.heap.size (strOfNums et) el w' (SN.FZ HS.out _) (hps.below hb) hb.size (by omega) hcap2 hfit.2.2 (fun e=>hfit.1 e) (HT.out.keep hb) h
   rw [<- show SN.Bf s ((M.take (j+1)).map (·.1))=SN.doS (SN.Bf s ((M.take j).map (·.1))) e0 e1 e2 e3 e4 el from HTE] at MD
   obtain⟨T1,hT1⟩: ∃T1,SN.Bf s ((M.take (j+1)).map (·.1))=T1:=⟨_,rfl⟩
   obtain⟨T0,hT0⟩: ∃T0,(SN.Bf s ((M.take j).map (·.1)))=T0:=⟨_,rfl⟩
   rw [hT1,hT0] at MD
   rw [hT0] at HB5 HG5
   have MD:=hide MD
   have ET1:=hide hT1
   have hbx:=Box.new wr 34 #[.int .i64 e0,.int .i32 e1,.int .u8 e2,.int .u8 e3,.int .u8 e4,.slice Ap el.length cp2,.string (strOfNums et)]
   have HBX:=hide ((Below.refl wr.heap.size wr).alloc (Nat.le_refl _) (.cells #[.int .i64 e0,.int .i32 e1,.int .u8 e2,.int .u8 e3,.int .u8 e4,.slice Ap el.length cp2,.string (strOfNums et)] 34))
   clear hT1 hT0 HTE cb hcc hps hle hfit hq b0
   go_wp2_with (refine AU (HB5.out.below HBX.out HB5.out.lt) rfl _ rfl rfl ?_)
   refine(MD.out _ _ (HW.out.trans (HBX.out.mono HW.out.size)) ⟨_,rfl,HG5.out.low HBX.out⟩).mono ?_
   rintro e w5 ⟨v5,rfl,⟨x5,rfl,hg5⟩,hb5⟩
   obtain⟨A6,c6',rfl⟩:=Af hg5
   have NT:=HBX.out.trans (hb5.mono HBX.out.size)
   have HB6:=hide (HB5.out.below NT HB5.out.lt)
   have HR6:=hide (HR.out.below NT HR.out.lt)
   have HW6:=hide (HW.out.trans (NT.mono HW.out.size))
   have HG6:=hide hg5
   clear hg5 hb5 NT HB5 HG5 HR HW c0 c1 c2 c3' c4 c5' c6 hbx HBX MD
   go_wp2_with (refine AQ HB6.out rfl rfl _ _ rfl rfl rfl rfl ?_;intro w6 hB6 hk6 hs6)
   go_roundw
   case rel=>
    refine⟨j+1,by omega,by go_num,hide ?_,hide (HR6.out.kept hk6 (by simp;exact hne)),hide (HW6.out.trans (hk6.toBelow HW6.out.size (fun k hh=>by simp at hh;omega)))⟩
    rw [ET1.out]
    exact⟨A6,c6',hB6,HG6.out.kept HB6.out (by decide) hk6⟩
   case measure=>simp [intOf];omega
  ·have hjl:j=n:=by omega
   have HTN:=hide (show(SN.Bf s ((M.take j).map (·.1)))=SN.Bf s (M.map (·.1)) by rw [hjl, <- HE.out.1,List.take_length])
   obtain⟨TT,hTT⟩: ∃TT,SN.Bf s (M.map (·.1))=TT:=⟨_,rfl⟩
   rw [HTN.out,hTT] at HB5 HG5
   have ETT:=hide hTT
   clear HTN hTT
   have hjn2: ¬(j:Int)<(n:Int):=by omega
   clear hjl
   go_wp2_with (first | (refine AU HB5.out rfl _ rfl rfl ?_) | (refine AQ HR.out hsR rfl _ _ rfl rfl rfl rfl ?_;intro w8 hB8 hk8 hs8))
   have htt:=ETT.out
   subst htt
   exact BU rfl rfl rfl hB8 HG5 HR HW hk8 Aj
theorem gL (s:ByteArray): ∃t:List Int,strOfNums t=s/\(∀x∈t,0<=x/\x<256)/\t.length=s.size:=by
 refine⟨s.data.toList.map fun b=>(b.toNat:Int),?_,fun x hx=>?_,by rw [List.length_map];rfl⟩
 ·apply ByteArray.ext
  apply Array.ext'
  simp only [strOfNums,List.map_map]
  conv=>rhs;rw [<- List.map_id s.data.toList]
  refine List.map_congr_left fun b _=>?_
  simp
 ·obtain⟨b,_,rfl⟩:=List.mem_map.1 hx
  have:=b.toNat_lt
  omega
theorem aC (s:SN.Sc) (v:Value) (A:Option Addr) (n c:Nat) (M:List (PA.Ev × Value)) (w:World) (hs:SN.Ad s) (hE:VX w A n M) (hn:n<=1000000) (hnc:n<=c) (hF: ∀p∈M,PA.Fits p.1) (hC: ∀p∈M,Ol p.2) (hT:I7 w) (h:IsS w s v):
  Calls Tryz.prog 24 #[v,.slice A n c] w (Az w (SN.Bf s (M.map (·.1)))):=
 VY s v A n c M w hs hE hn (fun p hp=>⟨(hF p hp).rune,Nat.le_trans (hF p hp).len (by omega),(hF p hp).nums⟩) hC hT h
theorem aD (s:SN.Sc) (v:Value) (kd rn pv it fn:Int) (Ae:Option Addr) (n c B:Nat) (tx:ByteArray) (l:List Int) (g:Nat) (w:World) (hs:SN.Ad s) (hl:Seen w B Ae n (l.map (Value.int .i64))) (hB:B<=w.heap.size) (hn:n<=100) (hnc:n<=c) (hlb: ∀x∈l, -1<=x/\x<=65535) (hr:kd=1->0<=rn/\rn<=1114111) (hT:I7 w) (hx:Box w g 34 #[.int .i64 kd,.int .i32 rn,.int .u8 pv,.int .u8 it,.int .u8 fn,.slice Ae n c,.string tx]) (h:IsS w s v):
  Calls Tryz.prog 24 #[v,.slice (some ⟨g,0,none⟩) 1 1] w (Az w (SN.doS s kd rn pv it fn l)):=by
 obtain⟨t,ht,_,_⟩:=gL tx
 subst ht
 have hlen:l.length=n:=by have:=hl.1;simpa using this
 subst hlen
 refine VY s v (some ⟨g,0,none⟩) 1 1 [(⟨kd,rn,pv,it,fn,l,t⟩,.slice Ae l.length c)] w hs (Gp.whole ⟨rfl,fun k p hk=>⟨g,rfl,hx.lt,fun j u hu=>?_,?_⟩⟩) (by omega) (fun p hp=>?_) (fun p hp=>?_) hT h
 ·rw [hx.cell, <- Array.getElem?_toList]
  exact JJ [(⟨kd,rn,pv,it,fn,l,t⟩,.slice Ae l.length c)] k j p u hk hu
 ·have hp:=List.mem_of_getElem? hk
  simp only [List.mem_singleton] at hp
  subst hp
  exact⟨Ae,c,rfl,hl.more hB,Nat.le_trans hn (by omega)⟩
 ·simp only [List.mem_singleton] at hp
  subst hp
  exact⟨hr,hn,hlb⟩
 ·simp only [List.mem_singleton] at hp
  subst hp
  exact iN hnc
theorem kD (s t:SN.Sc) (v:Value) (kd rn pv it fn:Int) (Ae:Option Addr) (n c:Nat) (tx:ByteArray) (w:World) (hs:SN.Ad s) (AL: ∀(g:Nat) (w':World) (v':Value),Below w.heap.size w w'->Box w' g 34 #[.int .i64 kd,.int .i32 rn,.int .u8 pv,.int .u8 it,.int .u8 fn,.slice Ae n c,.string tx] ->IsS w' s v'->Calls Tryz.prog 24 #[v',.slice (some ⟨g,0,none⟩) 1 1] w' (Az w' t)) (h:IsS w s v):
  Calls Tryz.prog 15 #[v,.agg #[.int .i64 kd,.int .i32 rn,.int .u8 pv,.int .u8 it,.int .u8 fn,.slice Ae n c,.string tx]] w (Az w t):=by
 obtain⟨x,rfl,hg⟩:=h
 obtain⟨A,cp,rfl⟩:=Af hg
 have HG:=hide hg
 have ALH:=hide AL
 clear hg AL hs
 go_enter Tryz.func15,Tryz.ntmps15
 go_upto_region 1 with (refine Dq HG _ rfl rfl rfl _ rfl rfl (fun _=>rfl) rfl rfl ?_;intro g gE gR w2 csR hsR HB2 HE2 HW2 HR2 HG2 hne Fp Fq hg1 Aj)
 clear HG
 obtain⟨e0,e1,e2,e3,e4,e5,e6⟩:=HE2.out.Bu
 go_wp2_with (refine AU HB2.out rfl _ rfl rfl ?_)
 have hbx:=(Below.refl w2.heap.size w2).alloc (Nat.le_refl _) (.cells #[.int .i64 kd,.int .i32 rn,.int .u8 pv,.int .u8 it,.int .u8 fn,.slice Ae n c,.string tx] 34)
 refine(ALH.out w2.heap.size _ _ (HW2.out.trans (hbx.mono HW2.out.size)) (Box.new w2 _ _) ⟨_,rfl,HG2.out.low hbx⟩).mono ?_
 rintro e w7 ⟨v7,rfl,⟨x7,rfl,hg7⟩,hb7⟩
 obtain⟨A7,c7,rfl⟩:=Af hg7
 have kE:=hbx.trans (hb7.mono hbx.size)
 have HR7:=hide (HR2.out.below kE HR2.out.lt)
 have HW7:=hide (HW2.out.trans (kE.mono HW2.out.size))
 have HG7:=hide hg7
 clear hb7 kE hbx hg7 HB2 HR2 HW2 HG2 HE2 e0 e1 e2 e3 e4 e5 e6
 go_wp2_with (refine AQ HR7.out hsR rfl _ _ rfl rfl rfl rfl ?_;intro w8 hB8 hk8 hs8)
 exact BU rfl rfl rfl hB8 HG7 HR7 HW7 hk8 Aj
theorem kF (s:SN.Sc) (v:Value) (kd rn pv it fn:Int) (Ae:Option Addr) (n c B:Nat) (tx:ByteArray) (l:List Int) (w:World) (hs:SN.Ad s) (hl:Seen w B Ae n (l.map (Value.int .i64))) (hB:B<=w.heap.size) (hn:n<=100) (hnc:n<=c) (hlb: ∀x∈l, -1<=x/\x<=65535) (hr:kd=1->0<=rn/\rn<=1114111) (hT:I7 w) (h:IsS w s v):
  Calls Tryz.prog 15 #[v,.agg #[.int .i64 kd,.int .i32 rn,.int .u8 pv,.int .u8 it,.int .u8 fn,.slice Ae n c,.string tx]] w (Az w (SN.doS s kd rn pv it fn l)):=
 kD s _ v kd rn pv it fn Ae n c tx w hs (fun g w' v' hb hx h'=>aD s v' kd rn pv it fn Ae n c B tx l g w' hs (hl.below (hb.mono hB)) (Nat.le_trans hB hb.size) hn hnc hlb hr (hT.keep hb) hx h') h
def Om (w0:World) (sv pv av:Value) (E1 E2:Value->World->Prop) (L:Nat->Bool) (u:Nat->Value) (w:World):Prop:=
 (L 0=true->u 0=sv)/\(L 1=true->u 1=pv)/\(L 2=true->u 2=av)/\(L 3=false->L 4=false/\Below w0.heap.size w0 w)/\(L 3=true->L 4=false->E1 (u 3) w)/\(L 4=true->E2 (u 4) w)
section
variable {w0 w w':World} {sv pv av:Value} {E1 E2:Value->World->Prop} {L:Nat->Bool} {u:Nat->Value}
theorem Om.same {u':Nat->Value} (h:Om w0 sv pv av E1 E2 L u w) (e: ∀j,j<6->u j=u' j):Om w0 sv pv av E1 E2 L u' w:=by
 obtain⟨a,b,c,d,f,g⟩:=h
 rw [e 0 (by decide)] at a
 rw [e 1 (by decide)] at b
 rw [e 2 (by decide)] at c
 rw [e 3 (by decide)] at f
 rw [e 4 (by decide)] at g
 exact⟨a,b,c,d,f,g⟩
theorem Om.Ih (h:Om w0 sv pv av E1 E2 L u w):Om w0 sv pv av E1 E2 (mark L 1) (upd u 1 pv) w:=by
 obtain⟨a,b,c,d,f,g⟩:=h
 exact⟨a,fun _=>rfl,c,d,f,g⟩
end
end Go.Proofs.YtoaabebgmdbjeaaGreatDoor
namespace Go.Proofs.YtoaabebgmdbjeaaGreatDoor
open Go.RowKit
namespace PG
def Gone (all:Bool) (r c k y x:Nat):Prop:=((k=0/\(r<y\/(y=r/\c<=x)))\/(k=1/\(y<r\/(y=r/\x<=c)))\/k=2)/\(all=true\/y=r)
instance (all:Bool) (r c k y x:Nat):Decidable (Gone all r c k y x):=inferInstanceAs (Decidable (_/\_))
def Near (r c y x:Nat):Prop:=y=r/\(x+1=c\/x=c+1)
instance (r c y x:Nat):Decidable (Near r c y x):=inferInstanceAs (Decidable (_/\_))
end PG
namespace SN
end SN
end Go.Proofs.YtoaabebgmdbjeaaGreatDoor
namespace Go.Proofs.YtoaabebgmdbjeaaGreatDoor
open Go Go.RowKit
theorem NU {w:World} {g T:Nat} {cs ds:Array Value} (h:Box w g T cs) (hs:cs.size=29) (hd:ds.size=29) (h1:ds.all (·.oneCell')=true) (ρ:Operand->Value) (o:Oper) {y z:Operand} (ho:o.op=.store 43 y z) (hy:ρ y=.pointer (some ⟨g,0,none⟩)) (hz:ρ z=.agg ds):
  (execOp ρ o).run Tryz.prog w=.ok .skip (Gu w g 0 ds.toList):=by
 unfold execOp
 simp only [ho,hy,hz,Instr.storeAt,Instr.sureAddr,Sem.run_bind,Sem.run_pure,Result.andThen_ok,run_storeVar_mid w g 0 43 ds (h.there (hs.trans hd.symm)) (by rw [En,hd]) h1]
 rw [FJ]
end Go.Proofs.YtoaabebgmdbjeaaGreatDoor
namespace Go.Proofs.YtoaabebgmdbjeaaGreatDoor
open Go Go.RowKit
def EvN (kd fn:Int) (n:Nat) (cs:Array Value) (v:Value) (w:World):Prop:= ∃g,v=.agg #[.int .i64 kd,.int .i32 0,.int .u8 0,.int .u8 0,.int .u8 fn,.slice (some ⟨g,0,none⟩) n n,.string {data:= #[]}] /\Box w g 3 cs
theorem EvN.stays {Ts:List TypeId} {kd fn:Int} {n:Nat} {cs:Array Value} (h:Ts.all (fun x=>x !=3)=true):Fb Ts (EvN kd fn n cs):=
 ⟨fun v w w' ⟨g,h1,h2⟩ hb=>⟨g,h1,h2.below hb h2.lt⟩,fun v w w' g' T' cs' ⟨g,h1,h2⟩ hb hT hk=>⟨g,h1,h2.kept hk (fun hm=>by
  have e:g=g':=by simpa using hm
  subst e
  unfold Box at h2 hb
  rw [hb] at h2
  simp only [Option.some.injEq,Obj.cells.injEq] at h2
  have:=List.all_eq_true.1 h _ hT
  simp [h2.2.1] at this)⟩⟩
def ev0 (kd fn:Int) (l:List Int):PA.Ev:=⟨kd,0,0,0,fn,l, []⟩
def nH (w:World) (p:PA.Ev × Value):Prop:= ∃Ap cp,p.2=.slice Ap p.1.params.length cp/\Seen w w.heap.size Ap p.1.params.length (Br p.1.params)/\p.1.params.length<=1024
end Go.Proofs.YtoaabebgmdbjeaaGreatDoor
namespace Go.Proofs.YtoaabebgmdbjeaaGreatDoor.PA
def Hr:List Int:= [228,9472,19968,769,128512,128]
def Ht:List Int:= [7,8,9,10,13,14,15,0,11]
def Eu:List (Int × Int):= [(0,77),(40,48),(40,66),(0,55),(0,56),(0,68),(0,69),(0,99),(35,56),(0,72)]
def DX:List Int:= [72,65,66,67,68,71,100,74,75,76,77,80,88,64,83,84,114,109,104,108,110,99,115]
def Ew (t:List Int):List Int:=(t.take 20).map fun x=>32+x%224
def DY (ps:List Int):List Int:=(ps.take 5).map fun x=> -1+x%62
def DC (rune f:Int):Int:=if f=104\/f=108\/rune%8=7 then 63 else 0
def Cw (kind rune final:Int) (ps t:List Int):Ev:=
 if kind%6=0 then (if rune.tmod 7=3 then pr (Hr.getD (final%6).toNat 0) else pr (32+rune%95))
 else if kind%6=1 then ⟨2,0,0,0,Ht.getD (final%9).toNat 0, [], []⟩
 else if kind%6=2 then ⟨3,0,0,(Eu.getD (final%10).toNat (0,0)).1,(Eu.getD (final%10).toNat (0,0)).2, [], []⟩
 else if kind%6=3 then ⟨5,0,0,0,0, [],Ew t⟩
 else ⟨4,0,DC rune (DX.getD (final%23).toNat 0),0,DX.getD (final%23).toNat 0,if DY ps= [-1] then [] else DY ps, []⟩
theorem KY {α:Type} {p:α->Prop} [DecidablePred p] (l:List α) (d:α) (h: ∀x∈l,p x) (k:Nat) (hk:k<l.length):p (l.getD k d):=by
 rw [List.getD_eq_getElem?_getD,List.getElem?_eq_getElem hk]
 exact h _ (List.getElem_mem hk)
theorem KZ (f:Int):64<=DX.getD (f%23).toNat 0/\DX.getD (f%23).toNat 0<=126:=
 KY (p:=fun x=>64<=x/\x<=126) DX 0 (by decide) (f%23).toNat (by show _<23;omega)
theorem JY (ps:List Int):(DY ps).length<=5/\ ∀x∈DY ps, -1<=x/\x<=60:=by
 refine⟨by simp [DY];omega,fun x hx=>?_⟩
 obtain⟨y,_,rfl⟩:=List.mem_map.1 hx
 omega
theorem Ro (t:List Int):(Ew t).length<=20/\ ∀x∈Ew t,32<=x/\x<256:=by
 refine⟨by simp [Ew];omega,fun x hx=>?_⟩
 obtain⟨y,_,rfl⟩:=List.mem_map.1 hx
 omega
theorem Jd (kind rune final:Int) (ps t:List Int):Right (Cw kind rune final ps t):=by
 unfold Cw
 by_cases h0:kind%6=0
 ·rw [if_pos h0]
  by_cases hr:rune.tmod 7=3
  ·rw [if_pos hr]
   exact .inl ⟨_,rfl,KY (p:=Ee) Hr 0 (by decide) (final%6).toNat (by show _<6;omega)⟩
  ·rw [if_neg hr]
   exact .inl ⟨_,rfl,.inl ⟨by omega,by omega⟩⟩
 rw [if_neg h0]
 by_cases h1:kind%6=1
 ·rw [if_pos h1]
  exact .inr (.inl ⟨_,rfl,KY (p:=fun b=>0<=b/\b<32/\b≠24/\b≠26/\b≠27) Ht 0 (by decide) (final%9).toNat (by show _<9;omega)⟩)
 rw [if_neg h1]
 by_cases h2:kind%6=2
 ·rw [if_pos h2]
  exact .inr (.inr (.inl ⟨_,_,rfl,KY (p:=fun q:Int × Int=>Cj q.1/\48<=q.2/\q.2<=126/\(q.1=0-> ¬opens q.2)) Eu (0,0) (by decide) (final%10).toNat (by show _<10;omega)⟩))
 rw [if_neg h2]
 by_cases h3:kind%6=3
 ·rw [if_pos h3]
  have:=Ro t
  exact .inr (.inr (.inr (.inr ⟨_,rfl,by omega,this.2⟩)))
 rw [if_neg h3]
 have hf:=KZ final
 have hp:=JY ps
 generalize DX.getD (final%23).toNat 0=f at hf
 refine .inr (.inr (.inr (.inl ⟨_,0,f,_,rfl,?_,.inl rfl,hf.1,hf.2,?_,?_,?_⟩)))
 ·unfold DC ES
  split<;>omega
 ·split
  ·simp
  ·omega
 ·intro x hx
  split at hx
  ·cases hx
  ·have:=hp.2 x hx
   omega
 ·split
  ·simp
  ·assumption
end Go.Proofs.YtoaabebgmdbjeaaGreatDoor.PA
namespace Go.Proofs.YtoaabebgmdbjeaaGreatDoor
open Go.RowKit
def Tst (p:Prop) (W:World) (u:Value) (wx:World):Prop:= ∃b:Bool,u=.bool b/\Hid (b=true<->p)/\W=wx
end Go.Proofs.YtoaabebgmdbjeaaGreatDoor
namespace Go.Proofs.YtoaabebgmdbjeaaGreatDoor
open Go.RowKit
end Go.Proofs.YtoaabebgmdbjeaaGreatDoor
