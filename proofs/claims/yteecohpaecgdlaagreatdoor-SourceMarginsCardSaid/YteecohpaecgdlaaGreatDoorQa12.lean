/- A part of the proof: ParseFeed, Same64, ParseEvents, ParseConst, StrConv, SeqSmall, SeqMake, RegBrief. -/
import Derived.Test.YteecohpaecgdlaaGreatDoorQa11
import Derived.Lib.SlBytesConst
import Derived.Laws.IdiomStrings
set_option maxRecDepth 100000
set_option maxHeartbeats 16000000
set_option linter.unusedVariables false
namespace Go.Proofs.YteecohpaecgdlaaGreatDoor
open Go.RowKit
theorem Seen.uD {w w':World} {L:List (Option Nat)} {A:Option Addr} {n:Nat} {xs:List Value} (h:Seen w w.heap.size A n xs) (k:Kept L w w') (hA: ∀ad,A=some ad->some ad.block∉L):Seen w' w'.heap.size A n xs:=
 ⟨h.1,fun j u hu=>by
  obtain⟨ad,h1,h2,h3⟩:=h.2 j u hu
  exact⟨ad,h1,Nat.lt_of_lt_of_le h2 k.size,(k.cell (by rw [addBlock];exact h2) (by rw [addBlock];exact hA ad h1)).trans h3⟩⟩
def Fed (B g:Nat) (s':PA.S) (evs:List PA.Ev) (vp vt:Value) (w:World) (e:Ending) (w':World):Prop:=
 ∃v' vp' vt' M,e=.returned v'/\M.map (·.1)=evs/\PB w' B g s' vp' vt'/\w'.ownsRow B 49 7 v' M.length (Cn M)/\Gn w' B M/\(∀p∈M, ∀q,p.2.ownBlock=some q->vp'.ownBlock≠some q/\(vp.ownBlock=some q\/w.heap.size<=q))/\
  Kept [some g,vp.ownBlock,vt.ownBlock] w w'/\(∀q,v'.ownBlock=some q->w.heap.size<=q)/\From w [vp.ownBlock] vp'.ownBlock/\From w [vt.ownBlock] vt'.ownBlock
theorem Yi {B g:Nat} {s:PA.S} {vp vt:Value} {w:World} (h:PB w B g s vp vt):Fed B g s [] vp vt w (.returned (.slice none 0 0)) w:=
 ⟨_,vp,vt, [],rfl,rfl,h,World.ownsRow_nil _ _ _ _,Gn.nil _ _,fun p hp=>(by cases hp),Kept.refl _ _,fun q hq=>(by simp [Value.ownBlock] at hq),From.mem (by simp),From.mem (by simp)⟩
theorem dD {B g:Nat} {s1 s2:PA.S} {ev1 ev2:List PA.Ev} {vp vt vp1 vt1 o:Value} {w wr w':World} {e:Ending} {M:List (PA.Ev × Value)} (hM:M.map (·.1)=ev1) (hP:PB wr B g s1 vp1 vt1) (ho:wr.ownsRow B 49 7 o M.length (Cn M)) (hO:Gn wr B M)
  (hD: ∀p∈M, ∀q,p.2.ownBlock=some q->vp1.ownBlock≠some q/\(vp.ownBlock=some q\/w.heap.size<=q)) (hK:Kept [some g,vp.ownBlock,vt.ownBlock] w wr) (hV: ∀q,o.ownBlock=some q->w.heap.size<=q) (fp:From w [vp.ownBlock] vp1.ownBlock) (ft:From w [vt.ownBlock] vt1.ownBlock)
  (hT:Iq B g s2 ev2 vp1 vt1 o M.length (Cn M) (fun x=>x=.slice none 0 0) wr e w'):Fed B g s2 (ev1++ev2) vp vt w e w':=by
 obtain⟨v2,vp2,vt2,M2,he,hM2,hP2,ho2,hO2,hQ2,hK2,f1,f2,f3⟩:=hT
 have hs:=hK.size
 have uE: ∀p∈M, ∀q,p.2.ownBlock=some q->some q∉ [some g,o.ownBlock,vp1.ownBlock,vt1.ownBlock] :=fun p hp q hq=>by
  have a:=Ac (hO p hp) hP.box (by decide)
  have b:=Ck (hO p hp) ho (by decide) hq
  have c:=(hD p hp q hq).1
  have d:=Ck (hO p hp) hP.txt (by decide) hq
  simp only [List.mem_cons,List.not_mem_nil,or_false,not_or,Option.some.injEq]
  exact⟨fun e=>a (by rw [hq,e]),fun e=>b e.symm,fun e=>c e.symm,fun e=>d e.symm⟩
 refine⟨v2,vp2,vt2,M++M2,he,by rw [List.map_append,hM,hM2],hP2,by rw [List.length_append,KW];exact ho2,(hO.kept hK2 uE).app hO2,?_,hK.trans hK2 ?_,?_,f2.JK fp hs,f3.JK ft hs⟩
 ·intro p hp q hq
  rcases List.mem_append.1 hp with hp | hp
  ·have h1:=hD p hp q hq
   have h2:=((hO p hp).lt q hq).2
   refine⟨fun e=>?_,h1.2⟩
   rcases f2 q e with h | h
   ·simp only [List.mem_singleton] at h
    exact h1.1 h.symm
   ·omega
  ·rcases hQ2 p hp with h | ⟨h,h'⟩
   ·rw [h] at hq
    simp [Value.ownBlock] at hq
   ·rw [h']
    refine⟨by simp [Value.ownBlock],?_⟩
    rw [h] at hq
    rcases fp q hq with h | h
    ·simp only [List.mem_singleton] at h
     exact .inl h.symm
    ·exact .inr h
 ·intro x hx
  simp only [List.mem_cons,List.not_mem_nil,or_false] at hx
  rcases hx with rfl | rfl | rfl | rfl
  ·exact From.mem (by simp)
  ·exact fun q hq=>.inr (hV q hq)
  ·exact fp.mono (by simp)
  ·exact ft.mono (by simp)
 ·intro q hq
  rcases f1 q hq with h | h
  ·simp only [List.mem_singleton] at h
   exact hV q h.symm
  ·omega
theorem dF (w:World):Calls Tryz.prog 13 #[] w fun e w'=>e=.returned (.pointer (some ⟨w.heap.size,0,none⟩))/\w.alloc (.cells (Dz PA.s0 (.slice none 0 0) (.slice none 0 0)) 82)=w':=by
 go_enter Tryz.func13,Tryz.ntmps13
 go_wp2_with fail
 go_ret
 exact⟨rfl,rfl⟩
theorem p9 (w:World) (B:Nat) (hB:B<=w.heap.size):PB (w.alloc (.cells (Dz PA.s0 (.slice none 0 0) (.slice none 0 0)) 82)) B w.heap.size PA.s0 (.slice none 0 0) (.slice none 0 0):=
 ⟨Box.new w _ _,World.ownsRow_nil _ _ _ _,World.ownsRow_nil _ _ _ _,hB,fun _=>rfl,fun _=>rfl⟩
theorem dG (B g:Nat) (s:PA.S) (vp vt:Value) (A:Option Addr) (n c:Nat) (l:List Int) (w:World) (h:PB w B g s vp vt) (hk:s.ok) (hpp:s.d.parts<=1000000) (hA:Seen w w.heap.size A n (u8s l)) (hl: ∀x∈l,0<=x/\x<256) (hn:n<=1000000)
  (hL:0<n-> ∀ad,A=some ad->some ad.block∉ [some g,vp.ownBlock,vt.ownBlock]) (hB:4<=B) (ht:Ez w):
  Calls Tryz.prog 33 #[.pointer (some ⟨g,0,none⟩),.slice A n c] w (Fed B g (PA.feed s l).1 (PA.feed s l).2 vp vt w):=by
 have hlen:l.length=n:=by simpa [u8s] using hA.1
 have HA:=hide hA
 have HL:=hide hl
 have HN:=hide hlen
 have HNL:=hide hL
 have HT:=hide ht
 have HK:=hide hk
 have HF0:=hide (Yi h)
 have HBK: ∀q,some q∈ [some g,vp.ownBlock,vt.ownBlock] ->4<=q:=fun q hq=>by
  simp only [List.mem_cons,List.not_mem_nil,or_false,Option.some.injEq] at hq
  rcases hq with rfl | hq | hq
  ·have:=h.low;omega
  ·have:=(h.par.lt q hq.symm).1;omega
  ·have:=(h.txt.lt q hq.symm).1;omega
 have HBK:=hide HBK
 clear hA hl hlen hL ht hk h
 go_enter Tryz.func33,Tryz.ntmps33
 go_wp2_with fail
 go_loopw [5,10] (fun o i wr=> ∃k:Nat,k<=n/\i=.int .i64 k/\Fed B g (PA.feed s (l.take k)).1 (PA.feed s (l.take k)).2 vp vt w (.returned o) wr) (fun _ i _=>n-(intOf i).toNat)
 case atStart=>exact⟨0,Nat.zero_le _,rfl,HF0.out⟩
 case round=>
  obtain⟨k,hk,rfl,hF⟩:=hrel
  by_cases hlt:k<n
  ·obtain⟨o,vp1,vt1,M,ho,hM,hP,hown,hO,hD,hK,hV,fp,ft⟩:=hF
   injection ho with ho
   subst ho
   obtain⟨ad,u,rfl,hadb,hu,hc⟩:=(HA.out.uD hK (HNL.out (by omega))).at_ hlt
   rw [u8s,List.getElem?_map] at hu
   obtain⟨x,hx,rfl⟩:=Option.map_eq_some_iff.1 hu
   have hxr:=HL.out x (List.mem_of_getElem? hx)
   have hs1:=PA.YM s (l.take k) x
   rw [show l.take k++ [x] =l.take (k+1) from by rw [List.take_add_one,hx];rfl] at hs1
   have hok:=PA.jk HK.out (l.take k) (fun y hy=>HL.out y (List.mem_of_mem_take hy))
   have hpt:=PA.Uv s (l.take k)
   have hln:=PA.R9 s (l.take k)
   rw [List.length_take] at hpt hln
   rw [<- hM,List.length_map] at hln
   generalize (PA.feed s (l.take k)).1=s1 at hs1 hP hok hpt
   generalize (PA.feed s (l.take k)).2=e1 at hs1 hM
   have TK:=hide (dB B g s1 vp1 vt1 u5 M.length (Cn M) x wr hP hok hown (by omega) (by omega) hxr.1 hxr.2 hB (HT.out.kept hK HBK.out))
   have ST:=hide (fun (e:Ending) (w':World)=>dD (w':=w') (e:=e) (s2:=(PA.take s1 x).1) (ev2:=(PA.take s1 x).2) hM hP hown hO hD hK hV fp ft)
   have HS:=hide hs1
   clear hM hP hown hO hD hK hV fp ft hs1 hok hu hx hxr
   generalize PA.take s1 x=r at TK ST HS
   go_wp2_with fail
   refine TK.out.mono ?_
   intro e w2 hT
   have hF2:=ST.out e w2 hT
   obtain⟨v2,vp2,vt2,M2,rfl,x2⟩:=hF2
   clear hT
   have HF2:=hide (show Fed B g r.1 (e1++r.2) vp vt w (.returned v2) w2 from⟨v2,vp2,vt2,M2,rfl,x2⟩)
   clear x2
   go_wp2_with fail
   go_roundw
   case rel=>exact⟨k+1,by omega,by go_num,by rw [HS.out];exact HF2.out⟩
   case measure=>simp [intOf];omega
  ·obtain rfl:k=n:=by omega
   rw [List.take_of_length_le (by rw [HN.out];omega)] at hF
   have HF:=hide hF
   clear hF
   go_wp2_with fail
   go_ret
   exact HF.out
end Go.Proofs.YteecohpaecgdlaaGreatDoor
namespace Go.Proofs.YteecohpaecgdlaaGreatDoor
open Go.RowKit
end Go.Proofs.YteecohpaecgdlaaGreatDoor
namespace Go.Proofs.YteecohpaecgdlaaGreatDoor
open Go.RowKit
def LD (w:World) (A:Option Addr) (n:Nat) (M:List (PA.Ev × Value)):Prop:=
 M.length=n/\ ∀k p,M[k]? =some p-> ∃gb,A=some ⟨gb,0,none⟩/\gb<w.heap.size/\(∀j u,(Hq p.1 p.2)[j]? =some u->w.cell? ⟨gb,k*7+j,none⟩=some u)/\
  ∃Ap cp,p.2=.slice Ap p.1.params.length cp/\Seen w w.heap.size Ap p.1.params.length (Lm p.1.params)/\p.1.params.length<=1024
theorem KY (e:PA.Ev) (u:Value):(Hq e u).length=7:=rfl
theorem Jt: ∀(M:List (PA.Ev × Value)) (k j:Nat) (p:PA.Ev × Value) (u:Value),M[k]? =some p->(Hq p.1 p.2)[j]? =some u->(Cn M)[k*7+j]? =some u
 | [],k,j,p,u,h,_=>by simp at h
 | q::M,0,j,p,u,h,hu=>by
  simp at h
  subst h
  have hj:j<7:=(List.getElem?_eq_some_iff.1 hu).1
  show(Hq q.1 q.2++Cn M)[0*7+j]? =some u
  rw [Nat.zero_mul,Nat.zero_add,List.getElem?_append_left (by rw [KY];exact hj)]
  exact hu
 | q::M,k+1,j,p,u,h,hu=>by
  have ih:=Jt M k j p u (by simpa using h) hu
  show(Hq q.1 q.2++Cn M)[(k+1)*7+j]? =some u
  rw [List.getElem?_append_right (by rw [KY];omega),KY,show(k+1)*7+j-7=k*7+j by omega]
  exact ih
theorem dH {w:World} {B B' c:Nat} {A:Option Addr} {M:List (PA.Ev × Value)} (h:w.ownsRow B 49 7 (.slice A M.length c) M.length (Cn M)) (hO:Gn w B' M) (hb: ∀p∈M,p.1.params.length<=1024):LD w A M.length M:=by
 refine⟨rfl,fun k p hp=>?_⟩
 have hk:k<M.length:=(List.getElem?_eq_some_iff.1 hp).1
 rcases h.2 with ⟨hv,h0⟩ | ⟨gb,cap,cur,hv,_,hh,_⟩
 ·omega
 ·injection hv with h1 h2 h3
  subst h1 h3
  refine⟨gb,rfl,(Array.getElem?_eq_some_iff.1 hh).1,fun j u hu=>?_,?_⟩
  ·have hj:j<7:=(List.getElem?_eq_some_iff.1 hu).1
   rw [h.cellAt _ (by omega)]
   exact Jt M k j p u hp hu
  ·have ho:=hO p (List.mem_of_getElem? hp)
   obtain⟨Ap,cp,hpv,_⟩:=Eh ho
   rw [hpv] at ho
   exact⟨Ap,cp,hpv,Seen.DT ho,hb p (List.mem_of_getElem? hp)⟩
theorem LD.kept {w w':World} {A:Option Addr} {n:Nat} {M:List (PA.Ev × Value)} (h:LD w A n M) (hb:Below w.heap.size w w'):LD w' A n M:=
 ⟨h.1,fun k p hp=>by
  obtain⟨gb,h1,h2,h3,Ap,cp,h4,h5,h6⟩:=h.2 k p hp
  exact⟨gb,h1,Nat.lt_of_lt_of_le h2 hb.size,fun j u hu=>(hb.cell (p:=⟨gb,k*7+j,none⟩) h2).trans (h3 j u hu),Ap,cp,h4,(h5.below hb).more hb.size,h6⟩⟩
end Go.Proofs.YteecohpaecgdlaaGreatDoor
namespace Go.Proofs.YteecohpaecgdlaaGreatDoor
open Go.RowKit
theorem Fed.below {B g:Nat} {s':PA.S} {evs:List PA.Ev} {w w':World} {e:Ending} (h:Fed B g s' evs (.slice none 0 0) (.slice none 0 0) w e w') {C:Nat} (hC:C<=g) (hw:C<=w.heap.size):Below C w w':=by
 obtain⟨v',vp',vt',M,_,_,_,_,_,_,hK,_⟩:=h
 refine hK.toBelow hw (fun k hk=>?_)
 simp [Value.ownBlock] at hk
 omega
theorem VH (w:World) (C:Array Value) (n c:Nat):(convert 37 37 (.slice (some ⟨w.heap.size,0,none⟩) n c)).run Tryz.prog (w.alloc (.cells C 5))=.ok (.slice (some ⟨w.heap.size,0,none⟩) n c) (w.alloc (.cells C 5 (C.size,C.size+1))):=
 Lib.run_convert_bytes_const w _ _ C n c Tryz.underlying37 Tryz.underlying5
theorem MR {w:World} {t:TypeId} {cs:Array Value} {lo hi n g B:Nat} {xs:List Value} (hg:g=w.heap.size) (hB:w.heap.size<B) (hn:xs.length=n) (hx: ∀(j:Nat) (u:Value),xs[j]? =some u->cs[j]? =some u):Seen (w.alloc (.cells cs t (lo,hi))) B (some ⟨g,0,none⟩) n xs:=by
 subst hg
 refine⟨hn,fun j u hu=>⟨_,rfl,hB,?_⟩⟩
 rw [Addr.add_lit,Nat.zero_add,World.cell?_alloc_mark]
 exact hx j u hu
theorem Ir {w:World} {l:List (String × DataW Unit)} (h:laidMet Tryz.prog l w) (hm:("linguist/parse.runs",Rows.laid_linguist_parse_runs)∈l/\("linguist/parse.moves",Rows.laid_linguist_parse_moves)∈l):Ez w:=YX h hm.1 hm.2
end Go.Proofs.YteecohpaecgdlaaGreatDoor
namespace Go.Proofs.YteecohpaecgdlaaGreatDoor
open Go.RowKit
end Go.Proofs.YteecohpaecgdlaaGreatDoor
namespace Go.Proofs.YteecohpaecgdlaaGreatDoor
open Go.RowKit
def dI (b:Int):Prop:=0<=b/\b<32/\b≠24/\b≠26/\b≠27
instance (b:Int):Decidable (dI b):=by unfold dI;infer_instance
def nL (i f:Int):Prop:=PA.LC i/\48<=f/\f<=126/\(i=0-> ¬PA.opens f)
instance (i f:Int):Decidable (nL i f):=by unfold nL;infer_instance
end Go.Proofs.YteecohpaecgdlaaGreatDoor
namespace Go.Proofs.YteecohpaecgdlaaGreatDoor
open Go.RowKit
def SK (l:List Int):Prop:=l.length<=16/\(∀x∈l, -1<=x/\x<=65535)/\l≠ [-1]
instance (l:List Int):Decidable (SK l):=by unfold SK;infer_instance
def dJ (t:List Int):Prop:=t.length<=4096/\ ∀x∈t,32<=x/\x<256
instance (l:List Int):Decidable (dJ l):=by unfold dJ;infer_instance
end Go.Proofs.YteecohpaecgdlaaGreatDoor
namespace Go.Proofs.YteecohpaecgdlaaGreatDoor
open Go.RowKit
section
variable {w w1:World} {g B:Nat} {t:TypeId} {a b c d e f h:Value}
theorem Box.jU (bx:Box w1 g t #[a,b,c,d,e,f,h]) (p0 p1 p2 p3 p4 p5 p6:Value):Box (((((((w1.setCell ⟨g,0,none⟩ p0).setCell ⟨g,1,none⟩ p1).setCell ⟨g,2,none⟩ p2).setCell ⟨g,3,none⟩ p3).setCell ⟨g,4,none⟩ p4).setCell ⟨g,5,none⟩ p5).setCell ⟨g,6,none⟩ p6) g t #[p0,p1,p2,p3,p4,p5,p6] :=by
 have:=((((((bx.set 0 p0).set 1 p1).set 2 p2).set 3 p3).set 4 p4).set 5 p5).set 6 p6
 simpa using this
end
def CX (l:List Int) (i:Int):Int:=if i<0\/(l.length:Int)<=i then-1 else l.getD i.toNat 0
theorem Yj (k r p q f:Int) (A:Option Addr) (n c:Nat) (l:List Int) (s:ByteArray) (i:Int) (w:World) (hA:Seen w w.heap.size A n (Lm l)):
  Calls Tryz.prog 174 #[.agg #[.int .i64 k,.int .i32 r,.int .u8 p,.int .u8 q,.int .u8 f,.slice A n c,.string s],.int .i64 i] w fun e w'=>e=.returned (.int .i64 (CX l i))/\Below w.heap.size w w':=by
 have hl:l.length=n:=by simpa [Lm] using hA.1
 have HB:=hide (fun o:Obj=>(Below.refl w.heap.size w).alloc (Nat.le_refl _) o)
 by_cases h0:i<0
 ·have HE:=hide (show CX l i= -1 by unfold CX;rw [if_pos (.inl h0)])
  clear hA hl
  go_enter Tryz.func174,Tryz.ntmps174
  go_wp2_with fail
  go_ret
  exact⟨CJ HE.out.symm,HB.out _⟩
 by_cases h1:(n:Int)<=i
 ·have HE:=hide (show CX l i= -1 by unfold CX;rw [if_pos (.inr (by rw [hl];exact h1))])
  clear hA hl
  go_enter Tryz.func174,Tryz.ntmps174
  go_wp2_with fail
  go_ret
  exact⟨CJ HE.out.symm,HB.out _⟩
 obtain⟨m,rfl⟩:=Int.eq_ofNat_of_zero_le (show 0<=i by omega)
 have hm:m<n:=by omega
 obtain⟨ad,u,rfl,_,hu,hc⟩:=hA.at_ hm
 rw [Lm,List.getElem?_map] at hu
 obtain⟨x,hx,rfl⟩:=Option.map_eq_some_iff.1 hu
 have HE:=hide (show CX l (m:Int)=x by unfold CX;rw [if_neg (by omega),List.getD_eq_getElem?_getD,Int.toNat_natCast,hx];rfl)
 have hac:=fun o=>(World.cell?_alloc_lt w o (ad.add m) (World.block_lt_of_cell? w (ad.add m) hc)).trans hc
 have hbt:((m:Int)).toNat=m:=by simp
 clear hA hu hx hl hc
 go_enter Tryz.func174,Tryz.ntmps174
 go_wp2_with fail
 go_ret
 exact⟨CJ HE.out.symm,HB.out _⟩
def Ph (l:List Int) (i none lo hi:Int):Int:=
 let q:=CX l i
 let m:=if q= -1\/(q=0/\0<lo) then none else q
 min (max m lo) hi
theorem Qm (k r p q f:Int) (A:Option Addr) (n c:Nat) (l:List Int) (s:ByteArray) (i none lo hi:Int) (w:World) (hA:Seen w w.heap.size A n (Lm l)):
  Calls Tryz.prog 161 #[.agg #[.int .i64 k,.int .i32 r,.int .u8 p,.int .u8 q,.int .u8 f,.slice A n c,.string s],.int .i64 i,.int .i64 none,.int .i64 lo,.int .i64 hi] w fun e w'=>e=.returned (.int .i64 (Ph l i none lo hi))/\Below w.heap.size w w':=by
 have HB:=hide (fun o:Obj=>(Below.refl w.heap.size w).alloc (Nat.le_refl _) o)
 have PA:=hide (fun (o:Obj)=>Yj k r p q f A n c l s i (w.alloc o) ((hA.alloc (Nat.le_refl _) _).more (by simp)))
 generalize hx:CX l i=x at PA
 have HA:=hide (show Ph l i none lo hi=min (max (if x= -1\/(x=0/\0<lo) then none else x) lo) hi by rw [<- hx];rfl)
 generalize Ph l i none lo hi=R at*
 clear hA hx
 by_cases h1:x= -1
 ·have d1:(x== -1)=true:=by simpa using h1
  have HM:=hide (show R=min (max none lo) hi by rw [HA.out,if_pos (.inl h1)])
  clear h1
  rcases Int.lt_or_le none lo with a1 | a1
  ·rcases Int.lt_or_le hi lo with a2 | a2
   ·have HE:=hide (show R=hi by rw [HM.out];simp only [Int.max_def,Int.min_def];(repeat' split)<;>omega)
    go_enter Tryz.func161,Tryz.ntmps161
    go_wp2_with fail
    refine(PA.out _).mono ?_
    rintro e w1 ⟨rfl,b1⟩
    have b2:=(HB.out _).trans (b1.mono (by simp))
    clear b1
    go_wp2_with fail
    go_ret
    exact⟨CJ HE.out.symm,b2⟩
   ·have HE:=hide (show R=lo by rw [HM.out];simp only [Int.max_def,Int.min_def];(repeat' split)<;>omega)
    go_enter Tryz.func161,Tryz.ntmps161
    go_wp2_with fail
    refine(PA.out _).mono ?_
    rintro e w1 ⟨rfl,b1⟩
    have b2:=(HB.out _).trans (b1.mono (by simp))
    clear b1
    go_wp2_with fail
    go_ret
    exact⟨CJ HE.out.symm,b2⟩
  ·rcases Int.lt_or_le hi none with a2 | a2
   ·have HE:=hide (show R=hi by rw [HM.out];simp only [Int.max_def,Int.min_def];(repeat' split)<;>omega)
    go_enter Tryz.func161,Tryz.ntmps161
    go_wp2_with fail
    refine(PA.out _).mono ?_
    rintro e w1 ⟨rfl,b1⟩
    have b2:=(HB.out _).trans (b1.mono (by simp))
    clear b1
    go_wp2_with fail
    go_ret
    exact⟨CJ HE.out.symm,b2⟩
   ·have HE:=hide (show R=none by rw [HM.out];simp only [Int.max_def,Int.min_def];(repeat' split)<;>omega)
    go_enter Tryz.func161,Tryz.ntmps161
    go_wp2_with fail
    refine(PA.out _).mono ?_
    rintro e w1 ⟨rfl,b1⟩
    have b2:=(HB.out _).trans (b1.mono (by simp))
    clear b1
    go_wp2_with fail
    go_ret
    exact⟨CJ HE.out.symm,b2⟩
 have d1:(x== -1)=false:=by simpa using h1
 by_cases h2:x=0
 ·have d2:(x==0)=true:=by simpa using h2
  by_cases h3:0<lo
  ·have HM:=hide (show R=min (max none lo) hi by rw [HA.out,if_pos (.inr ⟨h2,h3⟩)])
   clear h1 h2
   rcases Int.lt_or_le none lo with a1 | a1
   ·rcases Int.lt_or_le hi lo with a2 | a2
    ·have HE:=hide (show R=hi by rw [HM.out];simp only [Int.max_def,Int.min_def];(repeat' split)<;>omega)
     go_enter Tryz.func161,Tryz.ntmps161
     go_wp2_with fail
     refine(PA.out _).mono ?_
     rintro e w1 ⟨rfl,b1⟩
     have b2:=(HB.out _).trans (b1.mono (by simp))
     clear b1
     go_wp2_with fail
     go_ret
     exact⟨CJ HE.out.symm,b2⟩
    ·have HE:=hide (show R=lo by rw [HM.out];simp only [Int.max_def,Int.min_def];(repeat' split)<;>omega)
     go_enter Tryz.func161,Tryz.ntmps161
     go_wp2_with fail
     refine(PA.out _).mono ?_
     rintro e w1 ⟨rfl,b1⟩
     have b2:=(HB.out _).trans (b1.mono (by simp))
     clear b1
     go_wp2_with fail
     go_ret
     exact⟨CJ HE.out.symm,b2⟩
   ·rcases Int.lt_or_le hi none with a2 | a2
    ·have HE:=hide (show R=hi by rw [HM.out];simp only [Int.max_def,Int.min_def];(repeat' split)<;>omega)
     go_enter Tryz.func161,Tryz.ntmps161
     go_wp2_with fail
     refine(PA.out _).mono ?_
     rintro e w1 ⟨rfl,b1⟩
     have b2:=(HB.out _).trans (b1.mono (by simp))
     clear b1
     go_wp2_with fail
     go_ret
     exact⟨CJ HE.out.symm,b2⟩
    ·have HE:=hide (show R=none by rw [HM.out];simp only [Int.max_def,Int.min_def];(repeat' split)<;>omega)
     go_enter Tryz.func161,Tryz.ntmps161
     go_wp2_with fail
     refine(PA.out _).mono ?_
     rintro e w1 ⟨rfl,b1⟩
     have b2:=(HB.out _).trans (b1.mono (by simp))
     clear b1
     go_wp2_with fail
     go_ret
     exact⟨CJ HE.out.symm,b2⟩
  ·have HM:=hide (show R=min (max x lo) hi by rw [HA.out,if_neg (by omega)])
   clear h1 h2
   rcases Int.lt_or_le x lo with a1 | a1
   ·rcases Int.lt_or_le hi lo with a2 | a2
    ·have HE:=hide (show R=hi by rw [HM.out];simp only [Int.max_def,Int.min_def];(repeat' split)<;>omega)
     go_enter Tryz.func161,Tryz.ntmps161
     go_wp2_with fail
     refine(PA.out _).mono ?_
     rintro e w1 ⟨rfl,b1⟩
     have b2:=(HB.out _).trans (b1.mono (by simp))
     clear b1
     go_wp2_with fail
     go_ret
     exact⟨CJ HE.out.symm,b2⟩
    ·have HE:=hide (show R=lo by rw [HM.out];simp only [Int.max_def,Int.min_def];(repeat' split)<;>omega)
     go_enter Tryz.func161,Tryz.ntmps161
     go_wp2_with fail
     refine(PA.out _).mono ?_
     rintro e w1 ⟨rfl,b1⟩
     have b2:=(HB.out _).trans (b1.mono (by simp))
     clear b1
     go_wp2_with fail
     go_ret
     exact⟨CJ HE.out.symm,b2⟩
   ·rcases Int.lt_or_le hi x with a2 | a2
    ·have HE:=hide (show R=hi by rw [HM.out];simp only [Int.max_def,Int.min_def];(repeat' split)<;>omega)
     go_enter Tryz.func161,Tryz.ntmps161
     go_wp2_with fail
     refine(PA.out _).mono ?_
     rintro e w1 ⟨rfl,b1⟩
     have b2:=(HB.out _).trans (b1.mono (by simp))
     clear b1
     go_wp2_with fail
     go_ret
     exact⟨CJ HE.out.symm,b2⟩
    ·have HE:=hide (show R=x by rw [HM.out];simp only [Int.max_def,Int.min_def];(repeat' split)<;>omega)
     go_enter Tryz.func161,Tryz.ntmps161
     go_wp2_with fail
     refine(PA.out _).mono ?_
     rintro e w1 ⟨rfl,b1⟩
     have b2:=(HB.out _).trans (b1.mono (by simp))
     clear b1
     go_wp2_with fail
     go_ret
     exact⟨CJ HE.out.symm,b2⟩
 ·have d2:(x==0)=false:=by simpa using h2
  have HM:=hide (show R=min (max x lo) hi by rw [HA.out,if_neg (by omega)])
  clear h1 h2
  rcases Int.lt_or_le x lo with a1 | a1
  ·rcases Int.lt_or_le hi lo with a2 | a2
   ·have HE:=hide (show R=hi by rw [HM.out];simp only [Int.max_def,Int.min_def];(repeat' split)<;>omega)
    go_enter Tryz.func161,Tryz.ntmps161
    go_wp2_with fail
    refine(PA.out _).mono ?_
    rintro e w1 ⟨rfl,b1⟩
    have b2:=(HB.out _).trans (b1.mono (by simp))
    clear b1
    go_wp2_with fail
    go_ret
    exact⟨CJ HE.out.symm,b2⟩
   ·have HE:=hide (show R=lo by rw [HM.out];simp only [Int.max_def,Int.min_def];(repeat' split)<;>omega)
    go_enter Tryz.func161,Tryz.ntmps161
    go_wp2_with fail
    refine(PA.out _).mono ?_
    rintro e w1 ⟨rfl,b1⟩
    have b2:=(HB.out _).trans (b1.mono (by simp))
    clear b1
    go_wp2_with fail
    go_ret
    exact⟨CJ HE.out.symm,b2⟩
  ·rcases Int.lt_or_le hi x with a2 | a2
   ·have HE:=hide (show R=hi by rw [HM.out];simp only [Int.max_def,Int.min_def];(repeat' split)<;>omega)
    go_enter Tryz.func161,Tryz.ntmps161
    go_wp2_with fail
    refine(PA.out _).mono ?_
    rintro e w1 ⟨rfl,b1⟩
    have b2:=(HB.out _).trans (b1.mono (by simp))
    clear b1
    go_wp2_with fail
    go_ret
    exact⟨CJ HE.out.symm,b2⟩
   ·have HE:=hide (show R=x by rw [HM.out];simp only [Int.max_def,Int.min_def];(repeat' split)<;>omega)
    go_enter Tryz.func161,Tryz.ntmps161
    go_wp2_with fail
    refine(PA.out _).mono ?_
    rintro e w1 ⟨rfl,b1⟩
    have b2:=(HB.out _).trans (b1.mono (by simp))
    clear b1
    go_wp2_with fail
    go_ret
    exact⟨CJ HE.out.symm,b2⟩
end Go.Proofs.YteecohpaecgdlaaGreatDoor
namespace Go.Proofs.YteecohpaecgdlaaGreatDoor
open Go Go.RowKit
section
variable {P:Program} {Q:Exit->Act->World->Prop} {ops:Array Oper} {S:List (Option Nat)} {w0 w:World} {olds:Nat->Array Value} {sh:Cv} {vals:Nat->Value} {pr:Nat->Value->World->Prop} {gs:Nat->Nat} {L:Nat->Bool} {a:Act} {i:Nat}
theorem gslot (hJ:GJ ops S w0 olds sh vals pr gs L (fun j=>valOf ops j a) w) (AJ: ∀o,ops[i]? =some o-> ∀e∈o.after,Region.binds .any e=true->L e.on=true) (j:Nat) {d:Nat} {v:Value} (hs:Br ops j=some d) (hd:((ops[i]?).map fun o=>o.after.any fun e=>Region.binds .any e&&e.on==j).getD false=true) (hl:j<ops.size) (hk:Bu sh j=0) (hv:vals j=v):a.eval (.tmp d)=v:=
 AU hs (hJ.valOf hl (AZ AJ j hd) hk hv)
theorem Ao (hJ:GJ ops S w0 olds sh vals pr gs L (fun j=>valOf ops j a) w) (hGS:GS ops S w0 olds sh pr gs) (hcl:Closed ops L) (hL:L i=false) (d:Nat) (u v:Value) (he:a.eval (.tmp d)=u) (o:Oper) (ho:ops[i]? =some o) (hd:o.dst.isSome=true) (hg:o.guard=none) (hk:Bu sh i=0) (hv:vals i=v)
  (hr: ∀ρ:Operand->Value,(∀c,ρ (.const c)=c)->ρ (.tmp d)=u->(execOp ρ o).run P w=.ok (.value v) w):Step P ops Q (GJ ops S w0 olds sh vals pr gs) L a w i:=
 Step.val o ho hd (AY hg) v w (fun ρ hρ=>hr ρ (fun _=>(hρ _).symm) ((hρ _).symm.trans he)) (hJ.val hGS hcl hL hk (Below.refl _ _) _ hv)
theorem SL (hJ:GJ ops S w0 olds sh vals pr gs L (fun j=>valOf ops j a) w) (hGS:GS ops S w0 olds sh pr gs) (hcl:Closed ops L) (hL:L i=false) (d d':Nat) (u u' v:Value) (he:a.eval (.tmp d)=u) (he':a.eval (.tmp d')=u') (o:Oper) (ho:ops[i]? =some o) (hd:o.dst.isSome=true) (hg:o.guard=none) (hk:Bu sh i=0) (hv:vals i=v)
  (hr: ∀ρ:Operand->Value,(∀c,ρ (.const c)=c)->ρ (.tmp d)=u->ρ (.tmp d')=u'->(execOp ρ o).run P w=.ok (.value v) w):Step P ops Q (GJ ops S w0 olds sh vals pr gs) L a w i:=
 Step.val o ho hd (AY hg) v w (fun ρ hρ=>hr ρ (fun _=>(hρ _).symm) ((hρ _).symm.trans he) ((hρ _).symm.trans he')) (hJ.val hGS hcl hL hk (Below.refl _ _) _ hv)
end
end Go.Proofs.YteecohpaecgdlaaGreatDoor
