/- A part of the proof: SourceUse, EraseSpec, ScrStore, SrcLaw, SourceRuns, ScrRight. -/
import Derived.Test.YtoaabebgmdbjeaaGreatDoorSb22
set_option maxRecDepth 100000
set_option maxHeartbeats 16000000
set_option linter.unusedVariables false
namespace Go.Proofs.YtoaabebgmdbjeaaGreatDoor
open Go Go.RowKit
theorem nG (s t:SN.Sc) (v:Value) (rn pv it fn:Int) (Ae:Option Addr) (n c B:Nat) (tx:ByteArray) (l:List Int) (w:World) (hs:SN.Ac s) (hl:Seen w B Ae n (l.map (Value.int .i64))) (hB:B<=w.heap.size) (hn:n<=100) (hnc:n<=c) (hlb: ∀x∈l, -1<=x/\x<=65535) (hr:0<=rn/\rn<=1114111) (hT:Hq w) (ht:SN.JK s rn=t) (h:IsS w s v):Calls Tryz.prog 58 #[v,.agg #[.int .i64 1,.int .i32 rn,.int .u8 pv,.int .u8 it,.int .u8 fn,.slice Ae n c,.string tx]] w (BD w t):=by
 obtain⟨x,rfl,hg⟩:=h
 obtain⟨A,cp,rfl⟩:=Ad hg
 have HG:=hide hg
 have hgr:=hs.g.2.1
 have hgc:=hs.g.2.2.2.1
 have hR1:=hs.g.1
 have hK1:=hs.g.2.2.1
 have hrow:=hs.row
 have CJ:=hs.col
 have AT:=hide (fun w' v' (hb:Below w.heap.size w w') h=>(show Calls Tryz.prog 28 #[v',.int .i32 rn] w' (BD w' t) from ht▸XB s v' rn w' hs hr.1 hr.2 (hT.keep hb) h))
 clear ht hs hg hl hlb hT
 go_enter Tryz.func58,Tryz.ntmps58
 go_upto_region 1 with (refine Dw HG _ rfl rfl rfl _ rfl rfl (fun _=>rfl) rfl rfl ?_;intro g gE gR w2 csR hsR HB2 HE2 HW2 HR2 HG2 hne FM FN hg1 Ai)
 clear HG
 obtain⟨e0,e1,e2,e3,e4,e5,e6⟩:=HE2.out.Bo
 go_wp2_with (refine AX HB2.out rfl _ rfl rfl ?_)
 refine(AT.out _ _ HW2.out ⟨_,rfl,HG2.out⟩).mono (Al HR2 HW2 fun A7 c7 w7 HR7 HW7 HG7=>?_)
 clear e0 e1 e2 e3 e4 e5 e6
 clear HB2 HR2 HW2 HG2 HE2
 go_wp2_with (refine AQ HR7.out hsR rfl _ _ rfl rfl rfl rfl ?_;intro w8 hB8 hk8 hs8)
 exact BX rfl rfl rfl hB8 HG7 HR7 HW7 hk8 Ai
theorem nH (s t:SN.Sc) (v:Value) (rn pv it fn:Int) (Ae:Option Addr) (n c B:Nat) (tx:ByteArray) (l:List Int) (w:World) (hs:SN.Ac s) (hl:Seen w B Ae n (l.map (Value.int .i64))) (hB:B<=w.heap.size) (hn:n<=100) (hnc:n<=c) (hlb: ∀x∈l, -1<=x/\x<=65535) (hT:Hq w) (ht:SN.Fq s fn=t) (h:IsS w s v):Calls Tryz.prog 58 #[v,.agg #[.int .i64 2,.int .i32 rn,.int .u8 pv,.int .u8 it,.int .u8 fn,.slice Ae n c,.string tx]] w (BD w t):=by
 obtain⟨x,rfl,hg⟩:=h
 obtain⟨A,cp,rfl⟩:=Ad hg
 have HG:=hide hg
 have hgr:=hs.g.2.1
 have hgc:=hs.g.2.2.2.1
 have hR1:=hs.g.1
 have hK1:=hs.g.2.2.1
 have hrow:=hs.row
 have CJ:=hs.col
 have AT:=hide (fun w' v' (hb:Below w.heap.size w w') h=>(show Calls Tryz.prog 100 #[v',.int .u8 fn] w' (BD w' t) from ht▸Z7 s v' fn w' hs (hT.qd.keep hb) h))
 clear ht hs hg hl hlb hT
 go_enter Tryz.func58,Tryz.ntmps58
 go_upto_region 1 with (refine Dw HG _ rfl rfl rfl _ rfl rfl (fun _=>rfl) rfl rfl ?_;intro g gE gR w2 csR hsR HB2 HE2 HW2 HR2 HG2 hne FM FN hg1 Ai)
 clear HG
 obtain⟨e0,e1,e2,e3,e4,e5,e6⟩:=HE2.out.Bo
 go_wp2_with (refine AX HB2.out rfl _ rfl rfl ?_)
 refine(AT.out _ _ HW2.out ⟨_,rfl,HG2.out⟩).mono (Al HR2 HW2 fun A7 c7 w7 HR7 HW7 HG7=>?_)
 clear e0 e1 e2 e3 e4 e5 e6
 clear HB2 HR2 HW2 HG2 HE2
 go_wp2_with (refine AQ HR7.out hsR rfl _ _ rfl rfl rfl rfl ?_;intro w8 hB8 hk8 hs8)
 exact BX rfl rfl rfl hB8 HG7 HR7 HW7 hk8 Ai
theorem nI (s t:SN.Sc) (v:Value) (rn pv it fn:Int) (Ae:Option Addr) (n c B:Nat) (tx:ByteArray) (l:List Int) (w:World) (hs:SN.Ac s) (hl:Seen w B Ae n (l.map (Value.int .i64))) (hB:B<=w.heap.size) (hn:n<=100) (hnc:n<=c) (hlb: ∀x∈l, -1<=x/\x<=65535) (hT:Hq w) (ht:SN.FI s it fn=t) (h:IsS w s v):Calls Tryz.prog 58 #[v,.agg #[.int .i64 3,.int .i32 rn,.int .u8 pv,.int .u8 it,.int .u8 fn,.slice Ae n c,.string tx]] w (BD w t):=by
 obtain⟨x,rfl,hg⟩:=h
 obtain⟨A,cp,rfl⟩:=Ad hg
 have HG:=hide hg
 have hgr:=hs.g.2.1
 have hgc:=hs.g.2.2.2.1
 have hR1:=hs.g.1
 have hK1:=hs.g.2.2.1
 have hrow:=hs.row
 have CJ:=hs.col
 have AT:=hide (fun w' v' (hb:Below w.heap.size w w') h=>(show Calls Tryz.prog 101 #[v',.agg #[.int .i64 3,.int .i32 rn,.int .u8 pv,.int .u8 it,.int .u8 fn,.slice Ae n c,.string tx]] w' (BD w' t) from ht▸jM s v' 3 rn pv it fn Ae n c tx w' hs h))
 clear ht hs hg hl hlb hT
 go_enter Tryz.func58,Tryz.ntmps58
 go_upto_region 1 with (refine Dw HG _ rfl rfl rfl _ rfl rfl (fun _=>rfl) rfl rfl ?_;intro g gE gR w2 csR hsR HB2 HE2 HW2 HR2 HG2 hne FM FN hg1 Ai)
 clear HG
 obtain⟨e0,e1,e2,e3,e4,e5,e6⟩:=HE2.out.Bo
 go_wp2_with (refine AX HB2.out rfl _ rfl rfl ?_)
 refine(AT.out _ _ HW2.out ⟨_,rfl,HG2.out⟩).mono (Al HR2 HW2 fun A7 c7 w7 HR7 HW7 HG7=>?_)
 clear e0 e1 e2 e3 e4 e5 e6
 clear HB2 HR2 HW2 HG2 HE2
 go_wp2_with (refine AQ HR7.out hsR rfl _ _ rfl rfl rfl rfl ?_;intro w8 hB8 hk8 hs8)
 exact BX rfl rfl rfl hB8 HG7 HR7 HW7 hk8 Ai
theorem nJ (s t:SN.Sc) (v:Value) (rn pv it fn:Int) (Ae:Option Addr) (n c B:Nat) (tx:ByteArray) (l:List Int) (w:World) (hs:SN.Ac s) (hl:Seen w B Ae n (l.map (Value.int .i64))) (hB:B<=w.heap.size) (hn:n<=100) (hnc:n<=c) (hlb: ∀x∈l, -1<=x/\x<=65535) (hT:Hq w) (ht:SN.Vz s pv it fn l=t) (h:IsS w s v):Calls Tryz.prog 58 #[v,.agg #[.int .i64 4,.int .i32 rn,.int .u8 pv,.int .u8 it,.int .u8 fn,.slice Ae n c,.string tx]] w (BD w t):=by
 obtain⟨x,rfl,hg⟩:=h
 obtain⟨A,cp,rfl⟩:=Ad hg
 have HG:=hide hg
 have hgr:=hs.g.2.1
 have hgc:=hs.g.2.2.2.1
 have hR1:=hs.g.1
 have hK1:=hs.g.2.2.1
 have hrow:=hs.row
 have CJ:=hs.col
 have AT:=hide (fun w' v' (hb:Below w.heap.size w w') h=>(show Calls Tryz.prog 102 #[v',.agg #[.int .i64 4,.int .i32 rn,.int .u8 pv,.int .u8 it,.int .u8 fn,.slice Ae n c,.string tx]] w' (BD w' t) from ht▸jQ s v' 4 rn pv it fn Ae n c B tx l w' hs (hl.below (hb.mono hB)) (Nat.le_trans hB hb.size) hn hnc hlb (hT.flags.keep hb) h))
 clear ht hs hg hl hlb hT
 go_enter Tryz.func58,Tryz.ntmps58
 go_upto_region 1 with (refine Dw HG _ rfl rfl rfl _ rfl rfl (fun _=>rfl) rfl rfl ?_;intro g gE gR w2 csR hsR HB2 HE2 HW2 HR2 HG2 hne FM FN hg1 Ai)
 clear HG
 obtain⟨e0,e1,e2,e3,e4,e5,e6⟩:=HE2.out.Bo
 go_wp2_with (refine AX HB2.out rfl _ rfl rfl ?_)
 refine(AT.out _ _ HW2.out ⟨_,rfl,HG2.out⟩).mono (Al HR2 HW2 fun A7 c7 w7 HR7 HW7 HG7=>?_)
 clear e0 e1 e2 e3 e4 e5 e6
 clear HB2 HR2 HW2 HG2 HE2
 go_wp2_with (refine AQ HR7.out hsR rfl _ _ rfl rfl rfl rfl ?_;intro w8 hB8 hk8 hs8)
 exact BX rfl rfl rfl hB8 HG7 HR7 HW7 hk8 Ai
theorem jR (s t:SN.Sc) (v:Value) (kd rn pv it fn:Int) (Ae:Option Addr) (n c B:Nat) (tx:ByteArray) (l:List Int) (w:World) (hs:SN.Ac s) (hl:Seen w B Ae n (l.map (Value.int .i64))) (hB:B<=w.heap.size) (hn:n<=100) (hnc:n<=c) (hlb: ∀x∈l, -1<=x/\x<=65535) (hk:kd≠1/\kd≠2/\kd≠3/\kd≠4) (hT:Hq w) (ht:s=t) (h:IsS w s v):Calls Tryz.prog 58 #[v,.agg #[.int .i64 kd,.int .i32 rn,.int .u8 pv,.int .u8 it,.int .u8 fn,.slice Ae n c,.string tx]] w (BD w t):=by
 obtain⟨x,rfl,hg⟩:=h
 obtain⟨A,cp,rfl⟩:=Ad hg
 have HG:=hide hg
 have hgr:=hs.g.2.1
 have hgc:=hs.g.2.2.2.1
 have hR1:=hs.g.1
 have hK1:=hs.g.2.2.1
 have hrow:=hs.row
 have CJ:=hs.col
 have q1:(kd==1)=false:=by simp;omega
 have q2:(kd==2)=false:=by simp;omega
 have q3:(kd==3)=false:=by simp;omega
 have q4:(kd==4)=false:=by simp;omega
 clear hk
 subst ht
 clear hs hg hl hlb hT
 go_enter Tryz.func58,Tryz.ntmps58
 go_upto_region 1 with (refine Dw HG _ rfl rfl rfl _ rfl rfl (fun _=>rfl) rfl rfl ?_;intro g gE gR w2 csR hsR HB2 HE2 HW2 HR2 HG2 hne FM FN hg1 Ai)
 clear HG
 obtain⟨e0,e1,e2,e3,e4,e5,e6⟩:=HE2.out.Bo
 go_wp2_with (first | (refine AX HB2.out rfl _ rfl rfl ?_) | (refine AQ HR2.out hsR rfl _ _ rfl rfl rfl rfl ?_;intro w8 hB8 hk8 hs8))
 exact BX rfl rfl rfl hB8 HG2 HR2 HW2 hk8 Ai
theorem jS (s:SN.Sc) (v:Value) (kd rn pv it fn:Int) (Ae:Option Addr) (n c B:Nat) (tx:ByteArray) (l:List Int) (w:World) (hs:SN.Ac s) (hl:Seen w B Ae n (l.map (Value.int .i64))) (hB:B<=w.heap.size) (hn:n<=100) (hnc:n<=c) (hlb: ∀x∈l, -1<=x/\x<=65535) (hr:kd=1->0<=rn/\rn<=1114111) (hT:Hq w) (h:IsS w s v):Calls Tryz.prog 58 #[v,.agg #[.int .i64 kd,.int .i32 rn,.int .u8 pv,.int .u8 it,.int .u8 fn,.slice Ae n c,.string tx]] w (BD w (SN.doS s kd rn pv it fn l)):=by
 unfold SN.doS
 by_cases h1:kd=1
 ·subst h1
  rw [if_pos rfl]
  exact nG s _ v rn pv it fn Ae n c B tx l w hs hl hB hn hnc hlb (hr rfl) hT rfl h
 rw [if_neg h1]
 by_cases h2:kd=2
 ·subst h2
  rw [if_pos rfl]
  exact nH s _ v rn pv it fn Ae n c B tx l w hs hl hB hn hnc hlb hT rfl h
 rw [if_neg h2]
 by_cases h3:kd=3
 ·subst h3
  rw [if_pos rfl]
  exact nI s _ v rn pv it fn Ae n c B tx l w hs hl hB hn hnc hlb hT rfl h
 rw [if_neg h3]
 by_cases h4:kd=4
 ·subst h4
  rw [if_pos rfl]
  exact nJ s _ v rn pv it fn Ae n c B tx l w hs hl hB hn hnc hlb hT rfl h
 rw [if_neg h4]
 exact jR s _ v kd rn pv it fn Ae n c B tx l w hs hl hB hn hnc hlb ⟨h1,h2,h3,h4⟩ hT rfl h
def Jy (v:Value):Prop:= ∀A k c,v=.slice A k c->k<=c
theorem qm {A:Option Addr} {k c:Nat} (h:k<=c):Jy (.slice A k c):=fun _ _ _ e=>by
 cases e
 exact h
theorem SN.aD (s:SN.Sc) {M:List (PA.Ev × Value)} {j:Nat} {q:PA.Ev × Value} (h:M[j]? =some q):SN.CR s ((M.take (j+1)).map (·.1))=SN.iB (SN.CR s ((M.take j).map (·.1))) q.1:=by
 rw [List.take_add_one,h]
 simp only [Option.toList_some,List.map_append,List.map_cons,List.map_nil]
 exact SN.Si s _ _
def U0 (w:World) (A:Option Addr) (n:Nat) (M:List (PA.Ev × Value)):Prop:=
 M.length=n/\ ∀k p,M[k]? =some p-> ∃gb q,A=some ⟨gb,q,none⟩/\gb<w.heap.size/\(∀j u,(Eb p.1 p.2)[j]? =some u->w.cell? ⟨gb,q+k*7+j,none⟩=some u)/\
  ∃Ap cp,p.2=.slice Ap p.1.params.length cp/\Seen w w.heap.size Ap p.1.params.length (EO p.1.params)/\p.1.params.length<=1024
theorem Ga.whole {w:World} {A:Option Addr} {n:Nat} {M:List (PA.Ev × Value)} (h:Ga w A n M):U0 w A n M:=
 ⟨h.1,fun k p hp=>by
  obtain⟨gb,h1,h2,h3,h4⟩:=h.2 k p hp
  exact⟨gb,0,h1,h2,fun j u hu=>by rw [Nat.zero_add];exact h3 j u hu,h4⟩⟩
theorem Ga.cut {w:World} {A A':Option Addr} {n d i m:Nat} {M:List (PA.Ev × Value)} (h:Ga w A n M) (hm:i-d=m) (hi:i<=n) (hA: ∀gb,A=some ⟨gb,0,none⟩->d<i->A'=some ⟨gb,d*7,none⟩):U0 w A' m ((M.take i).drop d):=
 ⟨by rw [List.length_drop,List.length_take,h.1];omega,fun k p hp=>by
  rw [List.getElem?_drop,List.getElem?_take] at hp
  split at hp
  ·obtain⟨gb,h1,h2,h3,h4⟩:=h.2 (d+k) p hp
   exact⟨gb,d*7,hA gb h1 (by omega),h2,fun j u hu=>by rw [<- Nat.add_mul];exact h3 j u hu,h4⟩
  ·cases hp⟩
theorem jT (s:SN.Sc) (v:Value) (A:Option Addr) (n c:Nat) (M:List (PA.Ev × Value)) (w:World) (hs:SN.Ac s) (hE:U0 w A n M) (hn:n<=1000000) (hF: ∀p∈M,(p.1.kind=1->0<=p.1.rune/\p.1.rune<=1114111)/\p.1.params.length<=100/\ ∀x∈p.1.params, -1<=x/\x<=65535) (hC: ∀p∈M,Jy p.2) (hT:Hq w) (h:IsS w s v):
  Calls Tryz.prog 24 #[v,.slice A n c] w (BD w (SN.CR s (M.map (·.1)))):=by
 obtain⟨x,rfl,hg⟩:=h
 obtain⟨A0,cp,rfl⟩:=Ad hg
 have HG:=hide hg
 have HS:=hide hs
 have HE:=hide hE
 have HF:=hide hF
 have HC:=hide hC
 have HT:=hide hT
 have SC:=hide (fun w' v' h=>Es s v' hs w' h)
 clear hs hg hE hF hC hT
 go_enter Tryz.func24,Tryz.ntmps24
 go_upto_region 1 with (refine Bc HG _ rfl rfl rfl rfl rfl ?_;intro g gR w2 csR hsR HB2 HW2 HR2 HG2 hne hg1 Ai)
 clear HG
 go_wp2_with (refine AX HB2.out rfl _ rfl rfl ?_)
 refine(SC.out _ _ ⟨_,rfl,HG2.out⟩).mono ?_
 rintro e w3 ⟨v3,rfl,⟨x3,rfl,hg3⟩,hb3⟩
 obtain⟨A3,c3,rfl⟩:=Ad hg3
 have HB3:=hide (HB2.out.below hb3 HB2.out.lt)
 have HR3:=hide (HR2.out.below hb3 HR2.out.lt)
 have HW3:=hide (HW2.out.trans (hb3.mono HW2.out.size))
 have HG3:=hide hg3
 clear hb3 hg3 HB2 HR2 HW2 HG2 SC
 go_upto_region 2 with (refine AQ HB3.out rfl rfl _ _ rfl rfl rfl rfl ?_;intro w4 hB4 hk4 hs4)
 have HB4:=hide hB4
 have HR4:=hide (HR3.out.kept hk4 (by simp;exact hne))
 have HW4:=hide (HW3.out.trans (hk4.toBelow HW3.out.size (fun k hh=>by simp at hh;omega)))
 have HG4:=hide (HG3.out.kept HB3.out (by decide) hk4)
 clear hB4 hk4 hs4 HB3 HR3 HW3 HG3
 go_wp2_with fail
 go_loopw [11] (fun i wr=> ∃j:Nat,j<=n/\i=.int .i64 j/\Hid (∃A0 c0,Ak wr g (.slice A0 ((SN.CR s ((M.take j).map (·.1))).g.rows*(SN.CR s ((M.take j).map (·.1))).g.AB) c0) (SN.CR s ((M.take j).map (·.1)))/\IsG wr (SN.CR s ((M.take j).map (·.1))).g (gv (SN.CR s ((M.take j).map (·.1))).g.rows (SN.CR s ((M.take j).map (·.1))).g.AB (.slice A0 ((SN.CR s ((M.take j).map (·.1))).g.rows*(SN.CR s ((M.take j).map (·.1))).g.AB) c0)))/\Hid (Box wr gR 43 csR)/\Hid (Below w.heap.size w wr)) (fun i _=>n-(intOf i).toNat)
 case atStart=>exact⟨0,Nat.zero_le _,rfl,hide ⟨A3,c3,(show Ak w4 g _ (SN.CR s ((M.take 0).map (·.1))) from HB4.out),HG4.out⟩,HR4,HW4⟩
 case round=>
  obtain⟨j,hj,rfl,HX,HR,HW⟩:=hrel
  obtain⟨A5,c5,hB5,hG5⟩:=HX.out
  have HB5:=hide hB5
  have HG5:=hide hG5
  clear HX hB5 hG5 HB4 HR4 HW4 HG4
  by_cases hjn:j<n
  ·obtain⟨q,hq⟩: ∃q,M[j]? =some q:=⟨_,List.getElem?_eq_getElem (by rw [HE.out.1];exact hjn)⟩
   obtain⟨gb,o,hA',hgb,hcc,Ap,cp2,hpu,hps,hle⟩:=HE.out.2 j q hq
   have hfit:=HF.out q (List.mem_of_getElem? hq)
   have hcap:=HC.out q (List.mem_of_getElem? hq)
   have HTE:=SN.aD s hq
   obtain⟨e,u⟩:=q
   simp only [] at hcc hpu hps hle hfit hcap HTE
   subst hpu hA'
   obtain⟨e0,e1,e2,e3,e4,el,et⟩:=e
   simp only [] at hcc hps hle
   have b0:=HW.out
   have cb: ∀k u,(Eb ⟨e0,e1,e2,e3,e4,el,et⟩ (.slice Ap el.length cp2))[k]? =some u->wr.cell? ⟨gb,o+j*7+k,none⟩=some u:=fun k u hu=>(b0.cell (p:=⟨gb,o+j*7+k,none⟩) hgb).trans (hcc k u hu)
   have c0:wr.cell? ⟨gb,o+j*7,none⟩=some (.int .i64 e0):=cb 0 _ rfl
   have c1:wr.cell? ⟨gb,o+j*7+1,none⟩=some (.int .i32 e1):=cb 1 _ rfl
   have c2:wr.cell? ⟨gb,o+j*7+2,none⟩=some (.int .u8 e2):=cb 2 _ rfl
   have c3':wr.cell? ⟨gb,o+j*7+3,none⟩=some (.int .u8 e3):=cb 3 _ rfl
   have c4:wr.cell? ⟨gb,o+j*7+4,none⟩=some (.int .u8 e4):=cb 4 _ rfl
   have c5':wr.cell? ⟨gb,o+j*7+5,none⟩=some (.slice Ap el.length cp2):=cb 5 _ rfl
   have c6:wr.cell? ⟨gb,o+j*7+6,none⟩=some (.string (strOfNums et)):=cb 6 _ rfl
   have hl16:el.length<=100:=hfit.2.1
   have hcap2:el.length<=cp2:=hcap _ _ _ rfl
   clear hcap
   have MD:=fun (w':World) v' (hb:Below w.heap.size w w') h=>jS (SN.CR s ((M.take j).map (·.1))) v' e0 e1 e2 e3 e4 Ap el.length cp2 w.heap.size (strOfNums et) el w' (SN.Ef HS.out _) (hps.below hb) hb.size (by omega) hcap2 hfit.2.2 (fun e=>hfit.1 e) (HT.out.keep hb) h
   rw [<- show SN.CR s ((M.take (j+1)).map (·.1))=SN.doS (SN.CR s ((M.take j).map (·.1))) e0 e1 e2 e3 e4 el from HTE] at MD
   obtain⟨T1,hT1⟩: ∃T1,SN.CR s ((M.take (j+1)).map (·.1))=T1:=⟨_,rfl⟩
   obtain⟨T0,hT0⟩: ∃T0,(SN.CR s ((M.take j).map (·.1)))=T0:=⟨_,rfl⟩
   rw [hT1,hT0] at MD
   rw [hT0] at HB5 HG5
   have MD:=hide MD
   have ET1:=hide hT1
   have hbx:=Box.new wr 34 #[.int .i64 e0,.int .i32 e1,.int .u8 e2,.int .u8 e3,.int .u8 e4,.slice Ap el.length cp2,.string (strOfNums et)]
   have HBX:=hide ((Below.refl wr.heap.size wr).alloc (Nat.le_refl _) (.cells #[.int .i64 e0,.int .i32 e1,.int .u8 e2,.int .u8 e3,.int .u8 e4,.slice Ap el.length cp2,.string (strOfNums et)] 34))
   clear hT1 hT0 HTE cb hcc hps hle hfit hq b0
   go_wp2_with (refine AX (HB5.out.below HBX.out HB5.out.lt) rfl _ rfl rfl ?_)
   refine(MD.out _ _ (HW.out.trans (HBX.out.mono HW.out.size)) ⟨_,rfl,HG5.out.low HBX.out⟩).mono ?_
   rintro e w5 ⟨v5,rfl,⟨x5,rfl,hg5⟩,hb5⟩
   obtain⟨A6,c6',rfl⟩:=Ad hg5
   have jU:=HBX.out.trans (hb5.mono HBX.out.size)
   have HB6:=hide (HB5.out.below jU HB5.out.lt)
   have HR6:=hide (HR.out.below jU HR.out.lt)
   have HW6:=hide (HW.out.trans (jU.mono HW.out.size))
   have HG6:=hide hg5
   clear hg5 hb5 jU HB5 HG5 HR HW c0 c1 c2 c3' c4 c5' c6 hbx HBX MD
   go_wp2_with (refine AQ HB6.out rfl rfl _ _ rfl rfl rfl rfl ?_;intro w6 hB6 hk6 hs6)
   go_roundw
   case rel=>
    refine⟨j+1,by omega,by go_num,hide ?_,hide (HR6.out.kept hk6 (by simp;exact hne)),hide (HW6.out.trans (hk6.toBelow HW6.out.size (fun k hh=>by simp at hh;omega)))⟩
    rw [ET1.out]
    exact⟨A6,c6',hB6,HG6.out.kept HB6.out (by decide) hk6⟩
   case measure=>simp [intOf];omega
  ·have hjl:j=n:=by omega
   have HTN:=hide (show(SN.CR s ((M.take j).map (·.1)))=SN.CR s (M.map (·.1)) by rw [hjl, <- HE.out.1,List.take_length])
   obtain⟨TT,hTT⟩: ∃TT,SN.CR s (M.map (·.1))=TT:=⟨_,rfl⟩
   rw [HTN.out,hTT] at HB5 HG5
   have ETT:=hide hTT
   clear HTN hTT
   have hjn2: ¬(j:Int)<(n:Int):=by omega
   clear hjl
   go_wp2_with (first | (refine AX HB5.out rfl _ rfl rfl ?_) | (refine AQ HR.out hsR rfl _ _ rfl rfl rfl rfl ?_;intro w8 hB8 hk8 hs8))
   have htt:=ETT.out
   subst htt
   exact BX rfl rfl rfl hB8 HG5 HR HW hk8 Ai
theorem aF (s:SN.Sc) (v:Value) (A:Option Addr) (n c:Nat) (M:List (PA.Ev × Value)) (w:World) (hs:SN.Ac s) (hE:U0 w A n M) (hn:n<=1000000) (hnc:n<=c) (hF: ∀p∈M,PA.Fits p.1) (hC: ∀p∈M,Jy p.2) (hT:Hq w) (h:IsS w s v):
  Calls Tryz.prog 24 #[v,.slice A n c] w (BD w (SN.CR s (M.map (·.1)))):=
 jT s v A n c M w hs hE hn (fun p hp=>⟨(hF p hp).rune,Nat.le_trans (hF p hp).len (by omega),(hF p hp).nums⟩) hC hT h
theorem U1 (s:SN.Sc) (v:Value) (A:Option Addr) (n c:Nat) (M:List (PA.Ev × Value)) (w:World) (hs:SN.Ac s) (hE:Ga w A n M) (hn:n<=1000000) (hnc:n<=c) (hF: ∀p∈M,PA.Fits p.1) (hC: ∀p∈M,Jy p.2) (hT:Hq w) (h:IsS w s v):
  Calls Tryz.prog 24 #[v,.slice A n c] w (BD w (SN.CR s (M.map (·.1)))):=
 aF s v A n c M w hs hE.whole hn hnc hF hC hT h
def FedS (B g:Nat) (P':PA.S) (vp vt:Value) (T:SN.Sc) (w:World) (e:Ending) (w':World):Prop:=
 ∃v' vp' vt',e=.returned v'/\IsS w' T v'/\PB w' B g P' vp' vt'/\Kept [some g,vp.ownBlock,vt.ownBlock] w w'/\From w [vp.ownBlock] vp'.ownBlock/\From w [vt.ownBlock] vt'.ownBlock
theorem Tw {w w':World} {G:PG.Gr} {v:Value} {B q:Nat} {P:PA.S} {vp vt:Value} (h:IsG w G v) (hP:PB w B q P vp vt) (k:Kept [some q,vp.ownBlock,vt.ownBlock] w w'):IsG w' G v:=by
 obtain⟨s,h1,h2⟩:=h
 refine⟨s,h1,BH h2 k (fun b hb hm=>?_)⟩
 simp only [List.mem_cons,List.not_mem_nil,or_false] at hm
 rcases hm with e | e | e
 ·exact Aa h2 hP.box (by decide) (hb.trans e)
 ·exact Bv h2 hP.par (by decide) (b:=b) hb e.symm
 ·exact Bv h2 hP.txt (by decide) (b:=b) hb e.symm
def El (w0:World) (sv pv av:Value) (E1 E2:Value->World->Prop) (L:Nat->Bool) (u:Nat->Value) (w:World):Prop:=
 (L 0=true->u 0=sv)/\(L 1=true->u 1=pv)/\(L 2=true->u 2=av)/\(L 3=false->L 4=false/\Below w0.heap.size w0 w)/\(L 3=true->L 4=false->E1 (u 3) w)/\(L 4=true->E2 (u 4) w)
section
variable {w0 w w':World} {sv pv av:Value} {E1 E2:Value->World->Prop} {L:Nat->Bool} {u:Nat->Value}
theorem El.same {u':Nat->Value} (h:El w0 sv pv av E1 E2 L u w) (e: ∀j,j<6->u j=u' j):El w0 sv pv av E1 E2 L u' w:=by
 obtain⟨a,b,c,d,f,g⟩:=h
 rw [e 0 (by decide)] at a
 rw [e 1 (by decide)] at b
 rw [e 2 (by decide)] at c
 rw [e 3 (by decide)] at f
 rw [e 4 (by decide)] at g
 exact⟨a,b,c,d,f,g⟩
theorem El.put0 (h:El w0 sv pv av E1 E2 L u w):El w0 sv pv av E1 E2 (mark L 0) (upd u 0 sv) w:=by
 obtain⟨a,b,c,d,f,g⟩:=h
 exact⟨fun _=>rfl,b,c,d,f,g⟩
theorem El.IC (h:El w0 sv pv av E1 E2 L u w):El w0 sv pv av E1 E2 (mark L 1) (upd u 1 pv) w:=by
 obtain⟨a,b,c,d,f,g⟩:=h
 exact⟨a,fun _=>rfl,c,d,f,g⟩
theorem El.put2 (h:El w0 sv pv av E1 E2 L u w):El w0 sv pv av E1 E2 (mark L 2) (upd u 2 av) w:=by
 obtain⟨a,b,c,d,f,g⟩:=h
 exact⟨a,b,fun _=>rfl,d,f,g⟩
theorem El.put3 (h:El w0 sv pv av E1 E2 L u w) (h3:L 3=false) {v:Value} (e:E1 v w'):El w0 sv pv av E1 E2 (mark L 3) (upd u 3 v) w':=by
 obtain⟨a,b,c,d,f,g⟩:=h
 exact⟨a,b,c,fun h=>absurd h (by simp [mark]),fun _ _=>e,fun h=>absurd (show L 4=true from h) (by rw [(d h3).1];decide)⟩
theorem El.put4 (h:El w0 sv pv av E1 E2 L u w) (h3:L 3=true) {v:Value} (e:E2 v w'):El w0 sv pv av E1 E2 (mark L 4) (upd u 4 v) w':=by
 obtain⟨a,b,c,d,f,g⟩:=h
 exact⟨a,b,c,fun h=>absurd (h3.symm.trans h) (by decide),fun _ h=>absurd h (by simp [mark]),fun _=>e⟩
end
theorem Ml (B q:Nat) (P:PA.S) (vp vt:Value) (s:SN.Sc) (v:Value) (A:Option Addr) (n c:Nat) (l:List Int) (w:World) (hs:SN.Ac s) (hP:PB w B q P vp vt) (hk:P.ok) (hpp:P.d.parts<=1000000) (hA:Seen w w.heap.size A n (u8s l)) (hl: ∀x∈l,0<=x/\x<256) (hn:n<=100000)
  (hL:0<n-> ∀ad,A=some ad->some ad.block∉ [some q,vp.ownBlock,vt.ownBlock]) (hB:6<=B) (ht:F9 w) (hT: ∀w2,Below B w w2->Hq w2) (h:IsS w s v):
  Calls Tryz.prog 26 #[v,.pointer (some ⟨q,0,none⟩),.slice A n c] w (FedS B q (PA.feed P l).1 vp vt (SN.CR s (PA.feed P l).2) w):=by
 obtain⟨x,rfl,hg⟩:=h
 obtain⟨A0,cp,rfl⟩:=Ad hg
 have HG:=hide hg
 have hqw:=hP.lt
 have hlen:l.length=n:=by have:=hA.1;simpa [u8s] using this
 have FD:=fun w' (hb:Below w.heap.size w w')=>ZU B q P vp vt A n c l w' (hP.below hb) hk hpp ((hA.below hb).more hb.size) hl (by omega) hL hB (ht.keep hb)
 have hfit:=PA.Ns hk l hl
 have hel:=PA.MJ P l
 have HV: ∀b,vp.ownBlock=some b->B<=b/\b<w.heap.size:=fun b hb=>by
  obtain⟨_,_,_,_,_,hq⟩:=Bb hP.par
  exact hq b hb
 have HV2: ∀b,vt.ownBlock=some b->B<=b/\b<w.heap.size:=fun b hb=>by
  obtain⟨_,_,_,_,_,hq⟩:=Bb hP.txt
  exact hq b hb
 generalize (PA.feed P l).2=evs at FD hfit hel⊢
 generalize (PA.feed P l).1=P' at FD⊢
 obtain⟨T,hT0⟩: ∃T,SN.CR s evs=T:=⟨_,rfl⟩
 rw [hT0]
 have AL:=hide (fun (w':World) (v':Value) (A':Option Addr) (c':Nat) (M:List (PA.Ev × Value)) (hM:M.map (·.1)=evs) (hE:Ga w' A' M.length M) (hc:M.length<=c') (hC: ∀p∈M,Jy p.2) (hT':Hq w') (h:IsS w' s v')=>(show Calls Tryz.prog 24 #[v',.slice A' M.length c'] w' (BD w' T) from by
  have hml:M.length<=3*l.length:=by rw [<- List.length_map (f:=(·.1)),hM];exact hel
  have:=U1 s v' A' M.length c' M w' hs hE (by omega) hc (fun p hp=>hfit p.1 (by rw [<- hM];exact List.mem_map_of_mem hp)) hC hT' h
  rw [hM,hT0] at this
  exact this))
 have FDH:=hide FD
 have HFIT:=hide hfit
 have hlow:=hP.low
 have HP:=hide hP
 have SAFE:=hide (fun (w2 w3:World) (hb:Below w.heap.size w w2) (hk:Kept [some q,vp.ownBlock,vt.ownBlock] w2 w3)=>(show Hq w3 from hT w3 ((hb.mono (by omega)).trans (hk.toBelow (Nat.le_trans (by omega) hb.size) (fun k hh=>by
  simp only [List.mem_cons,List.not_mem_nil,or_false] at hh
  rcases hh with e | e | e
  ·cases e;exact hlow
  ·exact(HV k e.symm).1
  ·exact(HV2 k e.symm).1)))))
 clear hs hg hA hL hP ht FD hfit hel hT hT0
 go_enter Tryz.func26,Tryz.ntmps26
 go_upto_region 1 with (first | (refine BO rfl _ rfl rfl ?_;intro g w1 hB1 hb1 hg1) | (refine Bf rfl rfl ?_;intro gR w2 csR hR hsR hb2 hgR))
 have HB2:=hide (hB1.below hb2 hB1.lt)
 have HW2:=hide (hb1.trans (hb2.mono hb1.size))
 have HR2:=hide hR
 have HG2:=hide (HG.out.low HW2.out)
 have mX:=hb1.size
 have hne:gR≠g:=by have:=hB1.lt;omega
 have Ai:w.heap.size<=gR:=by omega
 have hgO:some g∉ [some q,vp.ownBlock,vt.ownBlock] :=by
  simp only [List.mem_cons,List.not_mem_nil,or_false,not_or]
  refine⟨by simp;omega,fun e=>?_,fun e=>?_⟩
  ·have:=(HV g e.symm).2;omega
  ·have:=(HV2 g e.symm).2;omega
 have hrO:some gR∉ [some q,vp.ownBlock,vt.ownBlock] :=by
  simp only [List.mem_cons,List.not_mem_nil,or_false,not_or]
  refine⟨by simp;omega,fun e=>?_,fun e=>?_⟩
  ·have:=(HV gR e.symm).2;omega
  ·have:=(HV2 gR e.symm).2;omega
 clear hB1 hb1 hb2 hR HG hgR
 go_simp
 refine Fa (n:=12) (n0:=5) (El w2 (.agg (scA (.slice A0 (s.g.rows*s.g.AB) cp) s)) (.pointer (some ⟨q,0,none⟩)) (.slice A n c) (fun v w3=> ∃A' c' M vp' vt',v=.slice A' M.length c'/\M.map (·.1)=evs/\Ga w3 A' M.length M/\M.length<=c'/\(∀p∈M,Jy p.2)/\PB w3 B q P' vp' vt'/\Kept [some q,vp.ownBlock,vt.ownBlock] w2 w3/\From w2 [vp.ownBlock] vp'.ownBlock/\From w2 [vt.ownBlock] vt'.ownBlock) (fun v w3=> ∃vp' vt',C8 T v w3/\PB w3 B q P' vp' vt'/\Kept [some q,vp.ownBlock,vt.ownBlock] w2 w3/\From w2 [vp.ownBlock] vp'.ownBlock/\From w2 [vt.ownBlock] vt'.ownBlock)) (by kernel_rfl) (by kernel_rfl) (by kernel_rfl) rfl (by kernel_rfl) (fun L u u' w' h hj=>hj.same h) (OY ⟨?_,?_,?_,?_,?_⟩) ?_ ⟨fun h=>(by cases h),fun h=>(by cases h),fun h=>(by cases h),fun _=>⟨rfl,(Below.refl _ _).drew⟩,fun h=>(by cases h),fun h=>(by cases h)⟩
 ·intro L a w' hL hsame hsz hJ AJ hcl
  have e0:a.eval (.tmp 3)=(.pointer (some ⟨g,0,none⟩)):=AY hsame (by kernel_rfl)
  have hx:Box w' g 43 (scA (.slice A0 (s.g.rows*s.g.AB) cp) s):=by
   cases h3:L 3 with
   | false=>exact HB2.out.below (hJ.2.2.2.1 h3).2 HB2.out.lt
   | true=>
    cases h4:L 4 with
    | false=>
     obtain⟨A',c',M,vp',vt',_,_,_,_,_,_,hkk,_⟩:=hJ.2.2.2.2.1 h3 h4
     exact HB2.out.kept hkk hgO
    | true=>
     obtain⟨vp',vt',_,_,hkk,_⟩:=hJ.2.2.2.2.2 h4
     exact HB2.out.kept hkk hgO
  exact Step.val _ rfl rfl (AV rfl) (.agg (scA (.slice A0 (s.g.rows*s.g.AB) cp) s)) w' (fun ρ hρ=>Aq hx rfl ρ _ rfl ((hρ _).symm.trans e0)) hJ.put0
 ·intro L a w' hL hsame hsz hJ AJ hcl
  have e0:a.eval (.tmp 1)=(.pointer (some ⟨q,0,none⟩)):=AY hsame (by kernel_rfl)
  refine Step.val _ rfl rfl (AV rfl) (.pointer (some ⟨q,0,none⟩)) w' (fun ρ hρ=>?_) hJ.IC
  rw [hρ] at e0
  clear hJ hsame AJ hcl hρ hsz
  go_simp
 ·intro L a w' hL hsame hsz hJ AJ hcl
  have e0:a.eval (.tmp 2)=(.slice A n c):=AY hsame (by kernel_rfl)
  refine Step.val _ rfl rfl (AV rfl) (.slice A n c) w' (fun ρ hρ=>?_) hJ.put2
  rw [hρ] at e0
  clear hJ hsame AJ hcl hρ hsz
  go_simp
 ·intro L a w' hL hsame hsz hJ AJ hcl
  have e0:a.eval (.tmp 8)=(.pointer (some ⟨q,0,none⟩)):=AU (j:=1) (by kernel_rfl) (hJ.2.1 (AZ AJ 1 (by kernel_rfl)))
  have e1:a.eval (.tmp 9)=(.slice A n c):=AU (j:=2) (by kernel_rfl) (hJ.2.2.1 (AZ AJ 2 (by kernel_rfl)))
  have hb3:=(hJ.2.2.2.1 hL).2
  refine Step.call _ rfl rfl (AV rfl) 59 #[.pointer (some ⟨q,0,none⟩),.slice A n c] (fun ρ hρ=>?_) ?_
  ·rw [hρ] at e0 e1
   have ef:ρ (.func 59)=.func (.func 59) #[] #[] :=(hρ _).symm
   clear hJ hsame AJ hcl hρ hsz hb3
   go_simp
  ·refine(FDH.out w' (HW2.out.trans (hb3.mono HW2.out.size))).mono ?_
   rintro e w3 ⟨v',vp',vt',M,rfl,hM,hPB,hown,hOM,hD,hK,hV,hF1,hF2⟩
   obtain⟨A',c',rfl,hcc,_⟩:=Bb hown
   refine⟨_,rfl,hJ.put3 hL ⟨A',c',M,vp',vt',rfl,hM,ZV hown hOM (fun p hp=>Nat.le_trans (HFIT.out p.1 (by rw [<- hM];exact List.mem_map_of_mem hp)).len (by omega)),hcc,fun p hp=>?_,hPB,(Kept.of_below hb3).trans hK (fun x hx=>From.mem hx),hF1.later hb3.size,hF2.later hb3.size⟩⟩
   intro Ap k cp' e
   have:=hOM p hp
   rw [e] at this
   obtain⟨A2,c2,e2,hc2,_⟩:=Bb this
   cases e2
   exact hc2
 ·intro L a w' hL hsame hsz hJ AJ hcl
  have h3:=AZ AJ 3 (by kernel_rfl)
  obtain⟨A',c',M,vp',vt',hv3,hM,hE,hcc,hC,hPB,hkk,hF1,hF2⟩:=hJ.2.2.2.2.1 h3 hL
  have e0:a.eval (.tmp 7)=(.agg (scA (.slice A0 (s.g.rows*s.g.AB) cp) s)):=AU (j:=0) (by kernel_rfl) (hJ.1 (AZ AJ 0 (by kernel_rfl)))
  have e1:a.eval (.tmp 10)=(.slice A' M.length c'):=AU (j:=3) (by kernel_rfl) hv3
  have hT':Hq w':=SAFE.out w2 w' HW2.out hkk
  have hG':IsG w' s.g (gv s.g.rows s.g.AB (.slice A0 (s.g.rows*s.g.AB) cp)):=Tw HG2.out (HP.out.below HW2.out) hkk
  refine Step.call _ rfl rfl (AV rfl) 24 #[.agg (scA (.slice A0 (s.g.rows*s.g.AB) cp) s),.slice A' M.length c'] (fun ρ hρ=>?_) ?_
  ·rw [hρ] at e0 e1
   have ef:ρ (.func 24)=.func (.func 24) #[] #[] :=(hρ _).symm
   clear hJ hsame AJ hcl hρ hsz hv3 hM hE hcc hC hPB hkk hF1 hF2 hT' hG'
   go_simp
  ·refine(AL.out w' _ A' c' M hM hE hcc hC hT' ⟨_,rfl,hG'⟩).mono ?_
   rintro e w3 ⟨v3,rfl,hi3,hb3⟩
   exact⟨_,rfl,hJ.put4 h3 ⟨vp',vt',D7 hi3,hPB.below hb3,hkk.below hb3,hF1,hF2⟩⟩
 ·intro L a w' hsame hsz hJ hall
  obtain⟨vp',vt',hSV,hPB,hkk,hF1,hF2⟩:=hJ.2.2.2.2.2 (hall 4 (by decide))
  obtain⟨u,hu,ha⟩:=EY hsame
  rw [ha]
  obtain⟨A8,c8,f4,hi8⟩:=(show C8 T (u 4) w' by rw [hu 4];exact hSV)
  have HR3:=hide (HR2.out.kept hkk hrO)
  clear hSV hJ hsame hu ha hall
  change wpList _ _ _ _ (Act.put (Act.put (Act.put (Act.put (Act.put (Act.put (Az _ u 0 _) (some 7) (u 0)) (some 8) (u 1)) (some 9) (u 2)) (some 10) (u 3)) (some 11) (u 4)) none (u 5)) w'
  simp only [Az]
  generalize u 0=z0
  generalize u 1=z1
  generalize u 2=z2
  generalize u 3=z3
  generalize u 4=z4 at f4⊢
  generalize u 5=z5
  subst f4
  simp only [List.drop_succ_cons,List.drop_zero]
  refine AQ (x:=.slice A8 (T.g.rows*T.g.AB) c8) (s:=T) HR3.out hsR rfl _ _ rfl (by go_simp) (by go_simp) rfl ?_
  intro w8 hB8 hk8 hs8
  change Exit.then _ _ Exit.normal _ _
  go_simp
  go_step
  go_wp2_with fail
  refine bodyPost_ret (Cb rfl rfl hB8) rfl ⟨_,vp',vt',rfl,⟨_,rfl,hi8.kept HR3.out (by decide) hk8⟩,hPB.kept hk8 (by simp;omega) (fun b hb hm=>?_) (fun b hb hm=>?_),((Kept.of_below HW2.out).trans hkk (fun x hx=>From.mem hx)).trans hk8 (fun x hx=>by simp at hx;subst hx;exact fun h e=>.inr (by cases e;exact Ai)),hF1.later HW2.out.size,hF2.later HW2.out.size⟩
  ·simp only [List.mem_singleton,Option.some.injEq] at hm
   subst hm
   rcases hF1 b hb with e | e
   ·simp only [List.mem_singleton] at e
    have:=(HV b e.symm).2
    omega
   ·have:=HR2.out.lt
    omega
  ·simp only [List.mem_singleton,Option.some.injEq] at hm
   subst hm
   rcases hF2 b hb with e | e
   ·simp only [List.mem_singleton] at e
    have:=(HV2 b e.symm).2
    omega
   ·have:=HR2.out.lt
    omega
end Go.Proofs.YtoaabebgmdbjeaaGreatDoor
namespace Go.Proofs.YtoaabebgmdbjeaaGreatDoor
open Go.RowKit
namespace PG
def Gone (all:Bool) (r c k y x:Nat):Prop:=((k=0/\(r<y\/(y=r/\c<=x)))\/(k=1/\(y<r\/(y=r/\x<=c)))\/k=2)/\(all=true\/y=r)
instance (all:Bool) (r c k y x:Nat):Decidable (Gone all r c k y x):=inferInstanceAs (Decidable (_/\_))
def Near (r c y x:Nat):Prop:=y=r/\(x+1=c\/x=c+1)
instance (r c y x:Nat):Decidable (Near r c y x):=inferInstanceAs (Decidable (_/\_))
end PG
namespace SN
end SN
end Go.Proofs.YtoaabebgmdbjeaaGreatDoor
namespace Go.Proofs.YtoaabebgmdbjeaaGreatDoor
open Go Go.RowKit
end Go.Proofs.YtoaabebgmdbjeaaGreatDoor
namespace Go.Proofs.YtoaabebgmdbjeaaGreatDoor
open Go Go.RowKit
def EvN (kd fn:Int) (n:Nat) (cs:Array Value) (v:Value) (w:World):Prop:= ∃g,v=.agg #[.int .i64 kd,.int .i32 0,.int .u8 0,.int .u8 0,.int .u8 fn,.slice (some ⟨g,0,none⟩) n n,.string {data:= #[]}] /\Box w g 3 cs
theorem EvN.stays {Ts:List TypeId} {kd fn:Int} {n:Nat} {cs:Array Value} (h:Ts.all (fun x=>x !=3)=true):FZ Ts (EvN kd fn n cs):=
 ⟨fun v w w' ⟨g,h1,h2⟩ hb=>⟨g,h1,h2.below hb h2.lt⟩,fun v w w' g' T' cs' ⟨g,h1,h2⟩ hb hT hk=>⟨g,h1,h2.kept hk (fun hm=>by
  have e:g=g':=by simpa using hm
  subst e
  unfold Box at h2 hb
  rw [hb] at h2
  simp only [Option.some.injEq,Obj.cells.injEq] at h2
  have:=List.all_eq_true.1 h _ hT
  simp [h2.2.1] at this)⟩⟩
def kK (w:World) (p:PA.Ev × Value):Prop:= ∃Ap cp,p.2=.slice Ap p.1.params.length cp/\Seen w w.heap.size Ap p.1.params.length (EO p.1.params)/\p.1.params.length<=1024
end Go.Proofs.YtoaabebgmdbjeaaGreatDoor
namespace Go.Proofs.YtoaabebgmdbjeaaGreatDoor
open Go Go.RowKit
def Jz:List Int:= [97,98,99,100]
def J4:List Int:= [27,91,72,27,91,80]
theorem Tx:PA.feed PA.s0 Jz=(PA.s0, [PA.pr 97,PA.pr 98,PA.pr 99,PA.pr 100]):=by kernel_rfl
theorem Tz:PA.feed PA.s0 J4=(PA.s0, [⟨4,0,0,0,72, [], []⟩,⟨4,0,0,0,80, [], []⟩]):=by kernel_rfl
theorem aG: ∀x∈Jz,0<=x/\x<256:=by decide
theorem aH: ∀x∈J4,0<=x/\x<256:=by decide
namespace SN
def srA:Sc:=CR (full 2 3) [PA.pr 97,PA.pr 98,PA.pr 99,PA.pr 100]
def srB:Sc:=CR srA [⟨4,0,0,0,72, [], []⟩,⟨4,0,0,0,80, [], []⟩]
theorem aI:PG.text (srA.g.f 0) srA.g.AB= [97,98,99] /\PG.text (srA.g.f 1) srA.g.AB= [100,32,32] /\srA.g.rows=2:=⟨by kernel_rfl,by kernel_rfl,by kernel_rfl⟩
theorem aJ:PG.text (srB.g.f 0) srB.g.AB= [98,99,32] /\srB.row=0/\srB.g.rows=2:=⟨by kernel_rfl,by kernel_rfl,by kernel_rfl⟩
theorem aK:Ac (full 2 3)/\Ac srA/\Ac srB:=by
 have h:=JB (R:=2) (K:=3) (by decide) (by decide) (by decide) (by decide)
 exact⟨h,Ef h _,Ef (Ef h _) _⟩
end SN
theorem O7 (w:World) (hT:Hq w) (ht:F9 w):Calls Tryz.prog 19 #[] w fun e w'=>e=.returned (.bool true)/\Below w.heap.size w w':=by
 obtain⟨R0,RA,RB⟩:=SN.aK
 obtain⟨a1,a2,a3⟩:=SN.aI
 obtain⟨b1,b2,b3⟩:=SN.aJ
 have NW:=hide (fun w'=>Oy 2 3 2 3 rfl rfl (by omega) (by omega) w')
 have h2:=ht.lt
 have FA:=hide (fun w' v A (hw:Below w.heap.size w w') (hP:PB w' w.heap.size w.heap.size PA.s0 (.slice none 0 0) (.slice none 0 0)) (hA:Seen w' w'.heap.size A 4 (u8s Jz)) (hL: ∀ad,A=some ad->some ad.block∉ [some w.heap.size,(.slice none 0 0:Value).ownBlock,(.slice none 0 0:Value).ownBlock]) h=>
  Ml w.heap.size w.heap.size PA.s0 (.slice none 0 0) (.slice none 0 0) (SN.full 2 3) v A 4 4 Jz w' R0 hP PA.Nk (by decide) hA aG (by omega) (fun _=>hL) h2 (ht.keep hw) (fun w2 hb2=>hT.keep (hw.trans hb2)) h)
 have FB:=hide (fun w' v A (hw:Below w.heap.size w w') (hP:PB w' w.heap.size w.heap.size PA.s0 (.slice none 0 0) (.slice none 0 0)) (hA:Seen w' w'.heap.size A 6 (u8s J4)) (hL: ∀ad,A=some ad->some ad.block∉ [some w.heap.size,(.slice none 0 0:Value).ownBlock,(.slice none 0 0:Value).ownBlock]) h=>
  Ml w.heap.size w.heap.size PA.s0 (.slice none 0 0) (.slice none 0 0) SN.srA v A 6 6 J4 w' RA hP PA.Nk (by decide) hA aH (by omega) (fun _=>hL) h2 (ht.keep hw) (fun w2 hb2=>hT.keep (hw.trans hb2)) h)
 rw [Tx] at FA
 rw [Tz] at FB
 have HSA:=hide (show SN.CR (SN.full 2 3) [PA.pr 97,PA.pr 98,PA.pr 99,PA.pr 100] =SN.srA from rfl)
 have HSB:=hide (show SN.CR SN.srA [⟨4,0,0,0,72, [], []⟩,⟨4,0,0,0,80, [], []⟩] =SN.srB from rfl)
 simp only [HSA.out] at FA
 simp only [HSB.out] at FB
 clear HSA HSB
 generalize SN.srB=TB at FB b1 b2 b3 RB
 generalize SN.srA=TA at FA FB a1 a2 a3 RA
 have TX0:=hide (fun (w':World) v (h:IsG w' TA.g v)=>R6 (G:=TA.g) RA.g h 0 (by omega))
 have TX1:=hide (fun (w':World) v (h:IsG w' TA.g v)=>R6 (G:=TA.g) RA.g h 1 (by omega))
 have TX2:=hide (fun (w':World) v (h:IsG w' TB.g v)=>R6 (G:=TB.g) RB.g h 0 (by omega))
 rw [a1] at TX0
 rw [a2] at TX1
 rw [b1] at TX2
 have EB:=hide b2
 have STR0:=hide (show strOfNums [97,98,99] ={data:= #[97,98,99]} from rfl)
 have STR1:=hide (show strOfNums [100,32,32] ={data:= #[100,32,32]} from rfl)
 have STR2:=hide (show strOfNums [98,99,32] ={data:= #[98,99,32]} from rfl)
 have LO0:=hide (Below.refl w.heap.size w)
 have cs:=TI
 clear hT ht h2 a1 a2 a3 b1 b2 b3 R0 RA RB
 go_enter Tryz.func19,Tryz.ntmps19
 go_wp2_with fail
 refine(MQ _).mono ?_
 rintro e w1 ⟨rfl,rfl⟩
 have hP:=TH w w.heap.size (Nat.le_refl _)
 have bel:Below w.heap.size w (w.alloc (.cells (Cz PA.s0 (.slice none 0 0) (.slice none 0 0)) 99)):=(Below.refl _ _).alloc (Nat.le_refl _) _
 generalize w.alloc (.cells (Cz PA.s0 (.slice none 0 0) (.slice none 0 0)) 99)=w1 at hP bel⊢
 have HP1:=hide hP
 clear hP
 have LO1:=hide (LO0.out.trans (bel.mono LO0.out.size))
 clear LO0 bel
 go_wp2_with fail
 refine(NW.out _).mono ?_
 rintro e wb0 ⟨v0,rfl,⟨x0,rfl,hg0⟩,hb0⟩
 have HP2:=hide (HP1.out.below hb0)
 clear HP1
 have LO2:=hide (LO1.out.trans (hb0.mono LO1.out.size))
 clear LO1 hb0
 obtain⟨A0,c0,rfl⟩:=Ad hg0
 have nK:=hide hg0
 clear hg0
 go_wp2_with fail
 have hS2:Seen (wb0.alloc (.cells (u8s Jz).toArray 5 (4,5))) (wb0.alloc (.cells (u8s Jz).toArray 5 (4,5))).heap.size (some ⟨wb0.heap.size,0,none⟩) 4 (u8s Jz):=Kq rfl (by simp) rfl (fun j u h=>by simpa using h)
 have aL:Below wb0.heap.size wb0 (wb0.alloc (.cells (u8s Jz).toArray 5 (4,5))):=(Below.refl _ _).alloc (Nat.le_refl _) _
 have hlt2:=LO2.out.size
 have hpl2:=HP2.out.lt
 refine(FA.out (wb0.alloc (.cells (u8s Jz).toArray 5 (4,5))) _ _ (LO2.out.trans (aL.mono LO2.out.size)) (HP2.out.below aL) hS2 (fun ad h=>by cases h;simp [Value.ownBlock];omega) ⟨_,rfl,nK.out.low aL⟩).mono ?_
 rintro e wf2 ⟨vf2,vp,vt,rfl,⟨x2,rfl,hg2⟩,jV,qo,_,_⟩
 obtain rfl:vp=.slice none 0 0:=jV.pn rfl
 obtain rfl:vt=.slice none 0 0:=jV.tn rfl
 have HP3:=hide jV
 have nL:Kept [some w.heap.size] wb0 wf2:=(Kept.of_below aL).trans qo (fun x hx=>by
  simp [Value.ownBlock] at hx
  rcases hx with rfl | rfl
  ·exact From.mem (by simp)
  ·exact fun h e=>by cases e)
 clear jV hS2 hlt2 qo aL
 have qp:=hide (nK.out.kept HP2.out.box (by decide) nL)
 have LO3:=hide (LO2.out.trans (nL.toBelow LO2.out.size (fun k hh=>by simp at hh;omega)))
 clear nK LO2 nL hpl2 HP2
 obtain⟨A2,c2,rfl⟩:=Ad hg2
 have qx:=hide hg2
 clear hg2
 go_upto_region 5 with (first | (refine Bf rfl rfl ?_;intro gs wags csgs O8 nM KW nN) | (refine AQ O8 nM rfl _ _ rfl rfl rfl rfl ?_;intro G8 aM Mq nO))
 have qy:w.heap.size<=gs:=by have:=LO3.out.size;omega
 have U2:w.heap.size≠gs:=by have:=HP3.out.lt;omega
 have HP4:=hide ((HP3.out.below KW).kept Mq (by simp;exact U2) (by simp [Value.ownBlock]) (by simp [Value.ownBlock]))
 clear HP3
 have qz:=hide (qp.out.low KW)
 have q9:=hide (qx.out.low KW)
 have LO4:=hide (LO3.out.trans (KW.mono LO3.out.size))
 clear qp qx LO3 KW
 have rA:=hide (qz.out.kept O8 (by decide) Mq)
 have nP:=hide (q9.out.kept O8 (by decide) Mq)
 have LO5:=hide (LO4.out.trans (Mq.toBelow LO4.out.size (fun k hh=>by simp at hh;omega)))
 clear qz q9 LO4
 have nQ:=hide aM
 clear aM Mq O8 nN nO
 go_simp
 go_wp2_with (refine AX nQ.out rfl _ rfl rfl ?_)
 have hS3:Seen (G8.alloc (.cells (u8s J4).toArray 5 (6,7))) (G8.alloc (.cells (u8s J4).toArray 5 (6,7))).heap.size (some ⟨G8.heap.size,0,none⟩) 6 (u8s J4):=Kq rfl (by simp) rfl (fun j u h=>by simpa using h)
 have aN:Below G8.heap.size G8 (G8.alloc (.cells (u8s J4).toArray 5 (6,7))):=(Below.refl _ _).alloc (Nat.le_refl _) _
 have hlt3:=LO5.out.size
 have hpl3:=HP4.out.lt
 refine(FB.out (G8.alloc (.cells (u8s J4).toArray 5 (6,7))) _ _ (LO5.out.trans (aN.mono LO5.out.size)) (HP4.out.below aN) hS3 (fun ad h=>by cases h;simp [Value.ownBlock];omega) ⟨_,rfl,nP.out.low aN⟩).mono ?_
 rintro e wf3 ⟨vf3,vp,vt,rfl,⟨x3,rfl,hg3⟩,jW,rC,_,_⟩
 obtain rfl:vp=.slice none 0 0:=jW.pn rfl
 obtain rfl:vt=.slice none 0 0:=jW.tn rfl
 have HP5:=hide jW
 have aO:Kept [some w.heap.size] G8 wf3:=(Kept.of_below aN).trans rC (fun x hx=>by
  simp [Value.ownBlock] at hx
  rcases hx with rfl | rfl
  ·exact From.mem (by simp)
  ·exact fun h e=>by cases e)
 clear jW hS3 hlt3 rC aN
 have jX:=hide (nQ.out.kept aO (by simp;exact Ne.symm U2))
 have rD:=hide (rA.out.kept HP4.out.box (by decide) aO)
 have rE:=hide (nP.out.kept HP4.out.box (by decide) aO)
 have LO6:=hide (LO5.out.trans (aO.toBelow LO5.out.size (fun k hh=>by simp at hh;omega)))
 clear nQ rA nP LO5 aO hpl3 HP4
 obtain⟨A3,c3,rfl⟩:=Ad hg3
 have rF:=hide hg3
 clear hg3
 go_upto_region 6 with (first | (refine Bf rfl rfl ?_;intro gt wagt csgt aP hzgt T9 hlgt) | (refine AQ aP hzgt rfl _ _ rfl rfl rfl rfl ?_;intro wsgt rG UA hqgt))
 have aQ:gs≠gt:=by have:=jX.out.lt;omega
 have le_gt:w.heap.size<=gt:=by have:=LO6.out.size;omega
 have jY:w.heap.size≠gt:=by have:=HP5.out.lt;omega
 have HP6:=hide ((HP5.out.below T9).kept UA (by simp;exact jY) (by simp [Value.ownBlock]) (by simp [Value.ownBlock]))
 clear HP5
 have rH:=hide (jX.out.below T9 jX.out.lt)
 have rJ:=hide (rD.out.low T9)
 have rM:=hide (rE.out.low T9)
 have rO:=hide (rF.out.low T9)
 have LO7:=hide (LO6.out.trans (T9.mono LO6.out.size))
 clear jX rD rE rF LO6 T9
 have Xf:=hide (rH.out.kept UA (by simp;first | exact aQ | exact Ne.symm rP))
 have rQ:=hide (rJ.out.kept aP (by decide) UA)
 have nR:=hide (rM.out.kept aP (by decide) UA)
 have rR:=hide (rO.out.kept aP (by decide) UA)
 have LO8:=hide (LO7.out.trans (UA.toBelow LO7.out.size (fun k hh=>by simp at hh;omega)))
 clear rH rJ rM rO LO7
 have nS:=hide rG
 clear rG UA aP hlgt hqgt
 go_simp
 have UC:=(show _=some (.int .i64 (TA.g.rows:Nat):Value) from Xf.out.c0)
 have UD:=(show _=some (.int .i64 (TA.g.AB:Nat):Value) from Xf.out.c1)
 have UE:=(show _=some (.slice A2 (TA.g.rows*TA.g.AB) c2:Value) from Xf.out.c2)
 go_wp2_with fail
 clear UC UD UE
 refine(TX0.out _ _ nR.out).mono ?_
 rintro e wx1 ⟨rfl,hx1⟩
 have Xg:=hide (Xf.out.below hx1 Xf.out.lt)
 have nT:=hide (nS.out.below hx1 nS.out.lt)
 have rT:=hide (rQ.out.low hx1)
 have nU:=hide (nR.out.low hx1)
 have rU:=hide (rR.out.low hx1)
 have LO9:=hide (LO8.out.trans (hx1.mono LO8.out.size))
 clear Xf nS rQ nR rR LO8 hx1
 have UC:=(show _=some (.int .i64 (TA.g.rows:Nat):Value) from Xg.out.c0)
 have UD:=(show _=some (.int .i64 (TA.g.AB:Nat):Value) from Xg.out.c1)
 have UE:=(show _=some (.slice A2 (TA.g.rows*TA.g.AB) c2:Value) from Xg.out.c2)
 simp only [STR0.out]
 go_wp2_with fail
 clear UC UD UE
 refine(TX1.out _ _ nU.out).mono ?_
 rintro e wx2 ⟨rfl,hx2⟩
 have nV:=hide (Xg.out.below hx2 Xg.out.lt)
 have Xh:=hide (nT.out.below hx2 nT.out.lt)
 have rV:=hide (rT.out.low hx2)
 have rW:=hide (nU.out.low hx2)
 have nW:=hide (rU.out.low hx2)
 have nX:=hide (LO9.out.trans (hx2.mono LO9.out.size))
 clear Xg nT rT nU rU LO9 hx2
 have nY:=(show _=some (.int .i64 (TB.g.rows:Nat):Value) from Xh.out.c0)
 have nZ:=(show _=some (.int .i64 (TB.g.AB:Nat):Value) from Xh.out.c1)
 have ng:=(show _=some (.slice A3 (TB.g.rows*TB.g.AB) c3:Value) from Xh.out.c2)
 simp only [STR1.out]
 go_wp2_with fail
 clear nY nZ ng
 refine(TX2.out _ _ nW.out).mono ?_
 rintro e wx3 ⟨rfl,hx3⟩
 have HSs7:=hide (nV.out.below hx3 nV.out.lt)
 have HSt4:=hide (Xh.out.below hx3 Xh.out.lt)
 have HGf10:=hide (rV.out.low hx3)
 have HGa9:=hide (rW.out.low hx3)
 have HGb6:=hide (nW.out.low hx3)
 have LO11:=hide (nX.out.trans (hx3.mono nX.out.size))
 clear nV Xh rV rW nW nX hx3
 have ni:=(show _=some (.int .i64 (0:Nat):Value) from(HSt4.out.c3).trans (by first | (rw [EB.out];done) | (rw [EB.out];rfl)))
 simp only [STR2.out]
 go_wp2_with fail
 clear ni
 go_ret
 exact⟨rfl,LO11.out⟩
end Go.Proofs.YtoaabebgmdbjeaaGreatDoor
namespace Go.Proofs.YtoaabebgmdbjeaaGreatDoor
open Go.RowKit
theorem Xi (s:SN.Sc) (x:Value) (hs:SN.Ac s) (w:World) (h:IsG w s.g (gv s.g.rows s.g.AB x)) (hsp:D6 w):
  Calls Tryz.prog 18 #[.agg (scA x s)] w fun e w'=>e=.returned (.bool true)/\Below w.heap.size w w':=by
 rw [gK]
 exact Tj (SN.raw s) x true (Vs hs) hs.g w h hsp
end Go.Proofs.YtoaabebgmdbjeaaGreatDoor
