/- A part of the proof: ParseFeed, Same64, ParseEvents, ParseConst, StrConv, SeqSmall, SeqMake, ScreenRef, ScreenFit, CursorRef. -/
import Derived.Test.YtoaabebgmdbjeaaGreatDoorSb11
import Derived.Lib.SlBytesConst
import Derived.Laws.IdiomStrings
set_option maxRecDepth 100000
set_option maxHeartbeats 16000000
set_option linter.unusedVariables false
namespace Go.Proofs.YtoaabebgmdbjeaaGreatDoor
open Go.RowKit
theorem Seen.qX {w w':World} {L:List (Option Nat)} {A:Option Addr} {n:Nat} {xs:List Value} (h:Seen w w.heap.size A n xs) (k:Kept L w w') (hA: ∀ad,A=some ad->some ad.block∉L):Seen w' w'.heap.size A n xs:=
 ⟨h.1,fun j u hu=>by
  obtain⟨ad,h1,h2,h3⟩:=h.2 j u hu
  exact⟨ad,h1,Nat.lt_of_lt_of_le h2 k.size,(k.cell (by rw [addBlock];exact h2) (by rw [addBlock];exact hA ad h1)).trans h3⟩⟩
def Fed (B g:Nat) (s':PA.S) (evs:List PA.Ev) (vp vt:Value) (w:World) (e:Ending) (w':World):Prop:=
 ∃v' vp' vt' M,e=.returned v'/\M.map (·.1)=evs/\PB w' B g s' vp' vt'/\w'.ownsRow B 34 7 v' M.length (CF M)/\GA w' B M/\(∀p∈M, ∀q,p.2.ownBlock=some q->vp'.ownBlock≠some q/\(vp.ownBlock=some q\/w.heap.size<=q))/\
  Kept [some g,vp.ownBlock,vt.ownBlock] w w'/\(∀q,v'.ownBlock=some q->w.heap.size<=q)/\From w [vp.ownBlock] vp'.ownBlock/\From w [vt.ownBlock] vt'.ownBlock
theorem Wj {B g:Nat} {s:PA.S} {vp vt:Value} {w:World} (h:PB w B g s vp vt):Fed B g s [] vp vt w (.returned (.slice none 0 0)) w:=
 ⟨_,vp,vt, [],rfl,rfl,h,World.ownsRow_nil _ _ _ _,GA.nil _ _,fun p hp=>(by cases hp),Kept.refl _ _,fun q hq=>(by simp [Value.ownBlock] at hq),From.mem (by simp),From.mem (by simp)⟩
theorem ZT {B g:Nat} {s1 s2:PA.S} {ev1 ev2:List PA.Ev} {vp vt vp1 vt1 o:Value} {w wr w':World} {e:Ending} {M:List (PA.Ev × Value)} (hM:M.map (·.1)=ev1) (hP:PB wr B g s1 vp1 vt1) (ho:wr.ownsRow B 34 7 o M.length (CF M)) (hO:GA wr B M)
  (hD: ∀p∈M, ∀q,p.2.ownBlock=some q->vp1.ownBlock≠some q/\(vp.ownBlock=some q\/w.heap.size<=q)) (hK:Kept [some g,vp.ownBlock,vt.ownBlock] w wr) (hV: ∀q,o.ownBlock=some q->w.heap.size<=q) (fp:From w [vp.ownBlock] vp1.ownBlock) (ft:From w [vt.ownBlock] vt1.ownBlock)
  (hT:Hl B g s2 ev2 vp1 vt1 o M.length (CF M) (fun x=>x=.slice none 0 0) wr e w'):Fed B g s2 (ev1++ev2) vp vt w e w':=by
 obtain⟨v2,vp2,vt2,M2,he,hM2,hP2,ho2,hO2,hQ2,hK2,f1,f2,f3⟩:=hT
 have hs:=hK.size
 have qY: ∀p∈M, ∀q,p.2.ownBlock=some q->some q∉ [some g,o.ownBlock,vp1.ownBlock,vt1.ownBlock] :=fun p hp q hq=>by
  have a:=Aa (hO p hp) hP.box (by decide)
  have b:=Bv (hO p hp) ho (by decide) hq
  have c:=(hD p hp q hq).1
  have d:=Bv (hO p hp) hP.txt (by decide) hq
  simp only [List.mem_cons,List.not_mem_nil,or_false,not_or,Option.some.injEq]
  exact⟨fun e=>a (by rw [hq,e]),fun e=>b e.symm,fun e=>c e.symm,fun e=>d e.symm⟩
 refine⟨v2,vp2,vt2,M++M2,he,by rw [List.map_append,hM,hM2],hP2,by rw [List.length_append,JM];exact ho2,(hO.kept hK2 qY).app hO2,?_,hK.trans hK2 ?_,?_,f2.Gc fp hs,f3.Gc ft hs⟩
 ·intro p hp q hq
  rcases List.mem_append.1 hp with hp | hp
  ·have h1:=hD p hp q hq
   have h2:=((hO p hp).lt q hq).2
   refine⟨fun e=>?_,h1.2⟩
   rcases f2 q e with h | h
   ·simp only [List.mem_singleton] at h
    exact h1.1 h.symm
   ·omega
  ·rcases hQ2 p hp with h | ⟨h,h'⟩
   ·rw [h] at hq
    simp [Value.ownBlock] at hq
   ·rw [h']
    refine⟨by simp [Value.ownBlock],?_⟩
    rw [h] at hq
    rcases fp q hq with h | h
    ·simp only [List.mem_singleton] at h
     exact .inl h.symm
    ·exact .inr h
 ·intro x hx
  simp only [List.mem_cons,List.not_mem_nil,or_false] at hx
  rcases hx with rfl | rfl | rfl | rfl
  ·exact From.mem (by simp)
  ·exact fun q hq=>.inr (hV q hq)
  ·exact fp.mono (by simp)
  ·exact ft.mono (by simp)
 ·intro q hq
  rcases f1 q hq with h | h
  ·simp only [List.mem_singleton] at h
   exact hV q h.symm
  ·omega
theorem MQ (w:World):Calls Tryz.prog 25 #[] w fun e w'=>e=.returned (.pointer (some ⟨w.heap.size,0,none⟩))/\w.alloc (.cells (Cz PA.s0 (.slice none 0 0) (.slice none 0 0)) 99)=w':=by
 go_enter Tryz.func25,Tryz.ntmps25
 go_wp2_with fail
 go_ret
 exact⟨rfl,rfl⟩
theorem TH (w:World) (B:Nat) (hB:B<=w.heap.size):PB (w.alloc (.cells (Cz PA.s0 (.slice none 0 0) (.slice none 0 0)) 99)) B w.heap.size PA.s0 (.slice none 0 0) (.slice none 0 0):=
 ⟨Box.new w _ _,World.ownsRow_nil _ _ _ _,World.ownsRow_nil _ _ _ _,hB,fun _=>rfl,fun _=>rfl⟩
theorem ZU (B g:Nat) (s:PA.S) (vp vt:Value) (A:Option Addr) (n c:Nat) (l:List Int) (w:World) (h:PB w B g s vp vt) (hk:s.ok) (hpp:s.d.parts<=1000000) (hA:Seen w w.heap.size A n (u8s l)) (hl: ∀x∈l,0<=x/\x<256) (hn:n<=1000000)
  (hL:0<n-> ∀ad,A=some ad->some ad.block∉ [some g,vp.ownBlock,vt.ownBlock]) (hB:6<=B) (ht:F9 w):
  Calls Tryz.prog 59 #[.pointer (some ⟨g,0,none⟩),.slice A n c] w (Fed B g (PA.feed s l).1 (PA.feed s l).2 vp vt w):=by
 have hlen:l.length=n:=by simpa [u8s] using hA.1
 have HA:=hide hA
 have HL:=hide hl
 have HN:=hide hlen
 have HNL:=hide hL
 have HT:=hide ht
 have HK:=hide hk
 have HF0:=hide (Wj h)
 have HBK: ∀q,some q∈ [some g,vp.ownBlock,vt.ownBlock] ->6<=q:=fun q hq=>by
  simp only [List.mem_cons,List.not_mem_nil,or_false,Option.some.injEq] at hq
  rcases hq with rfl | hq | hq
  ·have:=h.low;omega
  ·have:=(h.par.lt q hq.symm).1;omega
  ·have:=(h.txt.lt q hq.symm).1;omega
 have HBK:=hide HBK
 clear hA hl hlen hL ht hk h
 go_enter Tryz.func59,Tryz.ntmps59
 go_wp2_with fail
 go_loopw [5,10] (fun o i wr=> ∃k:Nat,k<=n/\i=.int .i64 k/\Fed B g (PA.feed s (l.take k)).1 (PA.feed s (l.take k)).2 vp vt w (.returned o) wr) (fun _ i _=>n-(intOf i).toNat)
 case atStart=>exact⟨0,Nat.zero_le _,rfl,HF0.out⟩
 case round=>
  obtain⟨k,hk,rfl,hF⟩:=hrel
  by_cases hlt:k<n
  ·obtain⟨o,vp1,vt1,M,ho,hM,hP,hown,hO,hD,hK,hV,fp,ft⟩:=hF
   injection ho with ho
   subst ho
   obtain⟨ad,u,rfl,hadb,hu,hc⟩:=(HA.out.qX hK (HNL.out (by omega))).at_ hlt
   rw [u8s,List.getElem?_map] at hu
   obtain⟨x,hx,rfl⟩:=Option.map_eq_some_iff.1 hu
   have hxr:=HL.out x (List.mem_of_getElem? hx)
   have hs1:=PA.WE s (l.take k) x
   rw [show l.take k++ [x] =l.take (k+1) from by rw [List.take_add_one,hx];rfl] at hs1
   have hok:=PA.Un HK.out (l.take k) (fun y hy=>HL.out y (List.mem_of_mem_take hy))
   have hpt:=PA.MI s (l.take k)
   have hln:=PA.MJ s (l.take k)
   rw [List.length_take] at hpt hln
   rw [<- hM,List.length_map] at hln
   generalize (PA.feed s (l.take k)).1=s1 at hs1 hP hok hpt
   generalize (PA.feed s (l.take k)).2=e1 at hs1 hM
   have TK:=hide (ZQ B g s1 vp1 vt1 u5 M.length (CF M) x wr hP hok hown (by omega) (by omega) hxr.1 hxr.2 hB (HT.out.kept hK HBK.out))
   have ST:=hide (fun (e:Ending) (w':World)=>ZT (w':=w') (e:=e) (s2:=(PA.take s1 x).1) (ev2:=(PA.take s1 x).2) hM hP hown hO hD hK hV fp ft)
   have HS:=hide hs1
   clear hM hP hown hO hD hK hV fp ft hs1 hok hu hx hxr
   generalize PA.take s1 x=r at TK ST HS
   go_wp2_with fail
   refine TK.out.mono ?_
   intro e w2 hT
   have hF2:=ST.out e w2 hT
   obtain⟨v2,vp2,vt2,M2,rfl,x2⟩:=hF2
   clear hT
   have HF2:=hide (show Fed B g r.1 (e1++r.2) vp vt w (.returned v2) w2 from⟨v2,vp2,vt2,M2,rfl,x2⟩)
   clear x2
   go_wp2_with fail
   go_roundw
   case rel=>exact⟨k+1,by omega,by go_num,by rw [HS.out];exact HF2.out⟩
   case measure=>simp [intOf];omega
  ·obtain rfl:k=n:=by omega
   rw [List.take_of_length_le (by rw [HN.out];omega)] at hF
   have HF:=hide hF
   clear hF
   go_wp2_with fail
   go_ret
   exact HF.out
end Go.Proofs.YtoaabebgmdbjeaaGreatDoor
namespace Go.Proofs.YtoaabebgmdbjeaaGreatDoor
open Go.RowKit
end Go.Proofs.YtoaabebgmdbjeaaGreatDoor
namespace Go.Proofs.YtoaabebgmdbjeaaGreatDoor
open Go.RowKit
def Ga (w:World) (A:Option Addr) (n:Nat) (M:List (PA.Ev × Value)):Prop:=
 M.length=n/\ ∀k p,M[k]? =some p-> ∃gb,A=some ⟨gb,0,none⟩/\gb<w.heap.size/\(∀j u,(Eb p.1 p.2)[j]? =some u->w.cell? ⟨gb,k*7+j,none⟩=some u)/\
  ∃Ap cp,p.2=.slice Ap p.1.params.length cp/\Seen w w.heap.size Ap p.1.params.length (EO p.1.params)/\p.1.params.length<=1024
theorem JO (e:PA.Ev) (u:Value):(Eb e u).length=7:=rfl
theorem KP: ∀(M:List (PA.Ev × Value)) (k j:Nat) (p:PA.Ev × Value) (u:Value),M[k]? =some p->(Eb p.1 p.2)[j]? =some u->(CF M)[k*7+j]? =some u
 | [],k,j,p,u,h,_=>by simp at h
 | q::M,0,j,p,u,h,hu=>by
  simp at h
  subst h
  have hj:j<7:=(List.getElem?_eq_some_iff.1 hu).1
  show(Eb q.1 q.2++CF M)[0*7+j]? =some u
  rw [Nat.zero_mul,Nat.zero_add,List.getElem?_append_left (by rw [JO];exact hj)]
  exact hu
 | q::M,k+1,j,p,u,h,hu=>by
  have ih:=KP M k j p u (by simpa using h) hu
  show(Eb q.1 q.2++CF M)[(k+1)*7+j]? =some u
  rw [List.getElem?_append_right (by rw [JO];omega),JO,show(k+1)*7+j-7=k*7+j by omega]
  exact ih
theorem ZV {w:World} {B B' c:Nat} {A:Option Addr} {M:List (PA.Ev × Value)} (h:w.ownsRow B 34 7 (.slice A M.length c) M.length (CF M)) (hO:GA w B' M) (hb: ∀p∈M,p.1.params.length<=1024):Ga w A M.length M:=by
 refine⟨rfl,fun k p hp=>?_⟩
 have hk:k<M.length:=(List.getElem?_eq_some_iff.1 hp).1
 rcases h.2 with ⟨hv,h0⟩ | ⟨gb,cap,cur,hv,_,hh,_⟩
 ·omega
 ·injection hv with h1 h2 h3
  subst h1 h3
  refine⟨gb,rfl,(Array.getElem?_eq_some_iff.1 hh).1,fun j u hu=>?_,?_⟩
  ·have hj:j<7:=(List.getElem?_eq_some_iff.1 hu).1
   rw [h.cellAt _ (by omega)]
   exact KP M k j p u hp hu
  ·have ho:=hO p (List.mem_of_getElem? hp)
   obtain⟨Ap,cp,hpv,_⟩:=C9 ho
   rw [hpv] at ho
   exact⟨Ap,cp,hpv,Seen.Bu ho,hb p (List.mem_of_getElem? hp)⟩
theorem Ga.kept {w w':World} {A:Option Addr} {n:Nat} {M:List (PA.Ev × Value)} (h:Ga w A n M) (hb:Below w.heap.size w w'):Ga w' A n M:=
 ⟨h.1,fun k p hp=>by
  obtain⟨gb,h1,h2,h3,Ap,cp,h4,h5,h6⟩:=h.2 k p hp
  exact⟨gb,h1,Nat.lt_of_lt_of_le h2 hb.size,fun j u hu=>(hb.cell (p:=⟨gb,k*7+j,none⟩) h2).trans (h3 j u hu),Ap,cp,h4,(h5.below hb).more hb.size,h6⟩⟩
theorem Box.seven {w:World} {g:Nat} {t:TypeId} {a b c d e f h:Value} (x:Box w g t #[a,b,c,d,e,f,h]):
  w.cell? ⟨g,0,none⟩=some a/\w.cell? ⟨g,1,none⟩=some b/\w.cell? ⟨g,2,none⟩=some c/\w.cell? ⟨g,3,none⟩=some d/\w.cell? ⟨g,4,none⟩=some e/\w.cell? ⟨g,5,none⟩=some f/\w.cell? ⟨g,6,none⟩=some h:=
 ⟨x.cell 0,x.cell 1,x.cell 2,x.cell 3,x.cell 4,x.cell 5,x.cell 6⟩
end Go.Proofs.YtoaabebgmdbjeaaGreatDoor
namespace Go.Proofs.YtoaabebgmdbjeaaGreatDoor
open Go.RowKit
theorem Fed.below {B g:Nat} {s':PA.S} {evs:List PA.Ev} {w w':World} {e:Ending} (h:Fed B g s' evs (.slice none 0 0) (.slice none 0 0) w e w') {C:Nat} (hC:C<=g) (hw:C<=w.heap.size):Below C w w':=by
 obtain⟨v',vp',vt',M,_,_,_,_,_,_,hK,_⟩:=h
 refine hK.toBelow hw (fun k hk=>?_)
 simp [Value.ownBlock] at hk
 omega
theorem TI (w:World) (C:Array Value) (n c:Nat):(convert 30 30 (.slice (some ⟨w.heap.size,0,none⟩) n c)).run Tryz.prog (w.alloc (.cells C 5))=.ok (.slice (some ⟨w.heap.size,0,none⟩) n c) (w.alloc (.cells C 5 (C.size,C.size+1))):=
 Lib.run_convert_bytes_const w _ _ C n c Tryz.underlying30 Tryz.underlying5
theorem Kq {w:World} {t:TypeId} {cs:Array Value} {lo hi n g B:Nat} {xs:List Value} (hg:g=w.heap.size) (hB:w.heap.size<B) (hn:xs.length=n) (hx: ∀(j:Nat) (u:Value),xs[j]? =some u->cs[j]? =some u):Seen (w.alloc (.cells cs t (lo,hi))) B (some ⟨g,0,none⟩) n xs:=by
 subst hg
 refine⟨hn,fun j u hu=>⟨_,rfl,hB,?_⟩⟩
 rw [Addr.add_lit,Nat.zero_add,World.cell?_alloc_mark]
 exact hx j u hu
theorem TL {w:World} {l:List (String × DataW Unit)} (h:laidMet Tryz.prog l w) (hm:("linguist/parse.runs",Rows.laid_linguist_parse_runs)∈l/\("linguist/parse.moves",Rows.laid_linguist_parse_moves)∈l):F9 w:=WT h hm.1 hm.2
end Go.Proofs.YtoaabebgmdbjeaaGreatDoor
namespace Go.Proofs.YtoaabebgmdbjeaaGreatDoor
open Go.RowKit
theorem FR {w:World} {B n c:Nat} {A:Option Addr} {l:List Int} (h:Seen w B A n (u8s l)):(convert 30 9 (.slice A n c)).run Tryz.prog w=.ok (.string (strOfNums l)) w:=by
 have hl:l.length=n:=by simpa [u8s] using h.1
 rcases A with _ | ad
 ·have:l= [] :=by
   rcases l with _ | ⟨x,l⟩
   ·rfl
   ·obtain⟨ad,h0,_⟩:=h.2 0 _ rfl
    cases h0
  subst this
  exact run_convert_bytes_nil w _ _ Tryz.underlying30 Tryz.underlying5 _ _ _ Tryz.underlying9
 ·have hh:(loadCells ad n).run Tryz.prog w=.ok ((l.map (Value.int .u8)).toArray) w:=by
   have:=run_loadCells_list (P:=Tryz.prog) w ad (l.map (Value.int .u8)) (fun j v hj=>by
    obtain⟨ad',h1,_,h3⟩:=h.2 j v hj
    injection h1 with h1
    subst h1
    exact h3)
   simpa [hl] using this
  rw [run_convert_bytes_string w _ _ _ _ n c Tryz.underlying30 Tryz.underlying5 Tryz.underlying9,run_bytesToString w _ n c l hh,foldl_push_bytes]
  simp [strOfNums,ByteArray.empty,ByteArray.emptyWithCapacity]
  rfl
end Go.Proofs.YtoaabebgmdbjeaaGreatDoor
namespace Go.Proofs.YtoaabebgmdbjeaaGreatDoor
open Go.RowKit
def ZW (b:Int):Prop:=0<=b/\b<32/\b≠24/\b≠26/\b≠27
instance (b:Int):Decidable (ZW b):=by unfold ZW;infer_instance
def kJ (i f:Int):Prop:=PA.Jt i/\48<=f/\f<=126/\(i=0-> ¬PA.opens f)
instance (i f:Int):Decidable (kJ i f):=by unfold kJ;infer_instance
end Go.Proofs.YtoaabebgmdbjeaaGreatDoor
namespace Go.Proofs.YtoaabebgmdbjeaaGreatDoor
open Go.RowKit
def Qa (l:List Int):Prop:=l.length<=16/\(∀x∈l, -1<=x/\x<=65535)/\l≠ [-1]
instance (l:List Int):Decidable (Qa l):=by unfold Qa;infer_instance
def ZX (t:List Int):Prop:=t.length<=4096/\ ∀x∈t,32<=x/\x<256
instance (l:List Int):Decidable (ZX l):=by unfold ZX;infer_instance
end Go.Proofs.YtoaabebgmdbjeaaGreatDoor
namespace Go.Proofs.YtoaabebgmdbjeaaGreatDoor
open Go.RowKit
section
variable {w w1:World} {g B:Nat} {t:TypeId} {a b c d e f h:Value}
theorem Box.lQ (bx:Box w1 g t #[a,b,c,d,e,f,h]) (p0 p1 p2 p3 p4 p5 p6:Value):Box (((((((w1.setCell ⟨g,0,none⟩ p0).setCell ⟨g,1,none⟩ p1).setCell ⟨g,2,none⟩ p2).setCell ⟨g,3,none⟩ p3).setCell ⟨g,4,none⟩ p4).setCell ⟨g,5,none⟩ p5).setCell ⟨g,6,none⟩ p6) g t #[p0,p1,p2,p3,p4,p5,p6] :=by
 have:=((((((bx.set 0 p0).set 1 p1).set 2 p2).set 3 p3).set 4 p4).set 5 p5).set 6 p6
 simpa using this
end
def Ch (l:List Int) (i:Int):Int:=if i<0\/(l.length:Int)<=i then-1 else l.getD i.toNat 0
theorem Wl (k r p q f:Int) (A:Option Addr) (n c:Nat) (l:List Int) (s:ByteArray) (i:Int) (w:World) (hA:Seen w w.heap.size A n (EO l)):
  Calls Tryz.prog 156 #[.agg #[.int .i64 k,.int .i32 r,.int .u8 p,.int .u8 q,.int .u8 f,.slice A n c,.string s],.int .i64 i] w fun e w'=>e=.returned (.int .i64 (Ch l i))/\Below w.heap.size w w':=by
 have hl:l.length=n:=by simpa [EO] using hA.1
 have HB:=hide (fun o:Obj=>(Below.refl w.heap.size w).alloc (Nat.le_refl _) o)
 by_cases h0:i<0
 ·have HE:=hide (show Ch l i= -1 by unfold Ch;rw [if_pos (.inl h0)])
  clear hA hl
  go_enter Tryz.func156,Tryz.ntmps156
  go_wp2_with fail
  go_ret
  exact⟨CV HE.out.symm,HB.out _⟩
 by_cases h1:(n:Int)<=i
 ·have HE:=hide (show Ch l i= -1 by unfold Ch;rw [if_pos (.inr (by rw [hl];exact h1))])
  clear hA hl
  go_enter Tryz.func156,Tryz.ntmps156
  go_wp2_with fail
  go_ret
  exact⟨CV HE.out.symm,HB.out _⟩
 obtain⟨m,rfl⟩:=Int.eq_ofNat_of_zero_le (show 0<=i by omega)
 have hm:m<n:=by omega
 obtain⟨ad,u,rfl,_,hu,hc⟩:=hA.at_ hm
 rw [EO,List.getElem?_map] at hu
 obtain⟨x,hx,rfl⟩:=Option.map_eq_some_iff.1 hu
 have HE:=hide (show Ch l (m:Int)=x by unfold Ch;rw [if_neg (by omega),List.getD_eq_getElem?_getD,Int.toNat_natCast,hx];rfl)
 have hac:=fun o=>(World.cell?_alloc_lt w o (ad.add m) (World.block_lt_of_cell? w (ad.add m) hc)).trans hc
 have hbt:((m:Int)).toNat=m:=by simp
 clear hA hu hx hl hc
 go_enter Tryz.func156,Tryz.ntmps156
 go_wp2_with fail
 go_ret
 exact⟨CV HE.out.symm,HB.out _⟩
def Nz (l:List Int) (i none lo hi:Int):Int:=
 let q:=Ch l i
 let m:=if q= -1\/(q=0/\0<lo) then none else q
 min (max m lo) hi
theorem Ox (k r p q f:Int) (A:Option Addr) (n c:Nat) (l:List Int) (s:ByteArray) (i none lo hi:Int) (w:World) (hA:Seen w w.heap.size A n (EO l)):
  Calls Tryz.prog 117 #[.agg #[.int .i64 k,.int .i32 r,.int .u8 p,.int .u8 q,.int .u8 f,.slice A n c,.string s],.int .i64 i,.int .i64 none,.int .i64 lo,.int .i64 hi] w fun e w'=>e=.returned (.int .i64 (Nz l i none lo hi))/\Below w.heap.size w w':=by
 have HB:=hide (fun o:Obj=>(Below.refl w.heap.size w).alloc (Nat.le_refl _) o)
 have PA:=hide (fun (o:Obj)=>Wl k r p q f A n c l s i (w.alloc o) ((hA.alloc (Nat.le_refl _) _).more (by simp)))
 generalize hx:Ch l i=x at PA
 have HA:=hide (show Nz l i none lo hi=min (max (if x= -1\/(x=0/\0<lo) then none else x) lo) hi by rw [<- hx];rfl)
 generalize Nz l i none lo hi=R at*
 clear hA hx
 by_cases h1:x= -1
 ·have d1:(x== -1)=true:=by simpa using h1
  have HM:=hide (show R=min (max none lo) hi by rw [HA.out,if_pos (.inl h1)])
  clear h1
  rcases Int.lt_or_le none lo with a1 | a1
  ·rcases Int.lt_or_le hi lo with a2 | a2
   ·have HE:=hide (show R=hi by rw [HM.out];simp only [Int.max_def,Int.min_def];(repeat' split)<;>omega)
    go_enter Tryz.func117,Tryz.ntmps117
    go_wp2_with fail
    refine(PA.out _).mono ?_
    rintro e w1 ⟨rfl,b1⟩
    have b2:=(HB.out _).trans (b1.mono (by simp))
    clear b1
    go_wp2_with fail
    go_ret
    exact⟨CV HE.out.symm,b2⟩
   ·have HE:=hide (show R=lo by rw [HM.out];simp only [Int.max_def,Int.min_def];(repeat' split)<;>omega)
    go_enter Tryz.func117,Tryz.ntmps117
    go_wp2_with fail
    refine(PA.out _).mono ?_
    rintro e w1 ⟨rfl,b1⟩
    have b2:=(HB.out _).trans (b1.mono (by simp))
    clear b1
    go_wp2_with fail
    go_ret
    exact⟨CV HE.out.symm,b2⟩
  ·rcases Int.lt_or_le hi none with a2 | a2
   ·have HE:=hide (show R=hi by rw [HM.out];simp only [Int.max_def,Int.min_def];(repeat' split)<;>omega)
    go_enter Tryz.func117,Tryz.ntmps117
    go_wp2_with fail
    refine(PA.out _).mono ?_
    rintro e w1 ⟨rfl,b1⟩
    have b2:=(HB.out _).trans (b1.mono (by simp))
    clear b1
    go_wp2_with fail
    go_ret
    exact⟨CV HE.out.symm,b2⟩
   ·have HE:=hide (show R=none by rw [HM.out];simp only [Int.max_def,Int.min_def];(repeat' split)<;>omega)
    go_enter Tryz.func117,Tryz.ntmps117
    go_wp2_with fail
    refine(PA.out _).mono ?_
    rintro e w1 ⟨rfl,b1⟩
    have b2:=(HB.out _).trans (b1.mono (by simp))
    clear b1
    go_wp2_with fail
    go_ret
    exact⟨CV HE.out.symm,b2⟩
 have d1:(x== -1)=false:=by simpa using h1
 by_cases h2:x=0
 ·have d2:(x==0)=true:=by simpa using h2
  by_cases h3:0<lo
  ·have HM:=hide (show R=min (max none lo) hi by rw [HA.out,if_pos (.inr ⟨h2,h3⟩)])
   clear h1 h2
   rcases Int.lt_or_le none lo with a1 | a1
   ·rcases Int.lt_or_le hi lo with a2 | a2
    ·have HE:=hide (show R=hi by rw [HM.out];simp only [Int.max_def,Int.min_def];(repeat' split)<;>omega)
     go_enter Tryz.func117,Tryz.ntmps117
     go_wp2_with fail
     refine(PA.out _).mono ?_
     rintro e w1 ⟨rfl,b1⟩
     have b2:=(HB.out _).trans (b1.mono (by simp))
     clear b1
     go_wp2_with fail
     go_ret
     exact⟨CV HE.out.symm,b2⟩
    ·have HE:=hide (show R=lo by rw [HM.out];simp only [Int.max_def,Int.min_def];(repeat' split)<;>omega)
     go_enter Tryz.func117,Tryz.ntmps117
     go_wp2_with fail
     refine(PA.out _).mono ?_
     rintro e w1 ⟨rfl,b1⟩
     have b2:=(HB.out _).trans (b1.mono (by simp))
     clear b1
     go_wp2_with fail
     go_ret
     exact⟨CV HE.out.symm,b2⟩
   ·rcases Int.lt_or_le hi none with a2 | a2
    ·have HE:=hide (show R=hi by rw [HM.out];simp only [Int.max_def,Int.min_def];(repeat' split)<;>omega)
     go_enter Tryz.func117,Tryz.ntmps117
     go_wp2_with fail
     refine(PA.out _).mono ?_
     rintro e w1 ⟨rfl,b1⟩
     have b2:=(HB.out _).trans (b1.mono (by simp))
     clear b1
     go_wp2_with fail
     go_ret
     exact⟨CV HE.out.symm,b2⟩
    ·have HE:=hide (show R=none by rw [HM.out];simp only [Int.max_def,Int.min_def];(repeat' split)<;>omega)
     go_enter Tryz.func117,Tryz.ntmps117
     go_wp2_with fail
     refine(PA.out _).mono ?_
     rintro e w1 ⟨rfl,b1⟩
     have b2:=(HB.out _).trans (b1.mono (by simp))
     clear b1
     go_wp2_with fail
     go_ret
     exact⟨CV HE.out.symm,b2⟩
  ·have HM:=hide (show R=min (max x lo) hi by rw [HA.out,if_neg (by omega)])
   clear h1 h2
   rcases Int.lt_or_le x lo with a1 | a1
   ·rcases Int.lt_or_le hi lo with a2 | a2
    ·have HE:=hide (show R=hi by rw [HM.out];simp only [Int.max_def,Int.min_def];(repeat' split)<;>omega)
     go_enter Tryz.func117,Tryz.ntmps117
     go_wp2_with fail
     refine(PA.out _).mono ?_
     rintro e w1 ⟨rfl,b1⟩
     have b2:=(HB.out _).trans (b1.mono (by simp))
     clear b1
     go_wp2_with fail
     go_ret
     exact⟨CV HE.out.symm,b2⟩
    ·have HE:=hide (show R=lo by rw [HM.out];simp only [Int.max_def,Int.min_def];(repeat' split)<;>omega)
     go_enter Tryz.func117,Tryz.ntmps117
     go_wp2_with fail
     refine(PA.out _).mono ?_
     rintro e w1 ⟨rfl,b1⟩
     have b2:=(HB.out _).trans (b1.mono (by simp))
     clear b1
     go_wp2_with fail
     go_ret
     exact⟨CV HE.out.symm,b2⟩
   ·rcases Int.lt_or_le hi x with a2 | a2
    ·have HE:=hide (show R=hi by rw [HM.out];simp only [Int.max_def,Int.min_def];(repeat' split)<;>omega)
     go_enter Tryz.func117,Tryz.ntmps117
     go_wp2_with fail
     refine(PA.out _).mono ?_
     rintro e w1 ⟨rfl,b1⟩
     have b2:=(HB.out _).trans (b1.mono (by simp))
     clear b1
     go_wp2_with fail
     go_ret
     exact⟨CV HE.out.symm,b2⟩
    ·have HE:=hide (show R=x by rw [HM.out];simp only [Int.max_def,Int.min_def];(repeat' split)<;>omega)
     go_enter Tryz.func117,Tryz.ntmps117
     go_wp2_with fail
     refine(PA.out _).mono ?_
     rintro e w1 ⟨rfl,b1⟩
     have b2:=(HB.out _).trans (b1.mono (by simp))
     clear b1
     go_wp2_with fail
     go_ret
     exact⟨CV HE.out.symm,b2⟩
 ·have d2:(x==0)=false:=by simpa using h2
  have HM:=hide (show R=min (max x lo) hi by rw [HA.out,if_neg (by omega)])
  clear h1 h2
  rcases Int.lt_or_le x lo with a1 | a1
  ·rcases Int.lt_or_le hi lo with a2 | a2
   ·have HE:=hide (show R=hi by rw [HM.out];simp only [Int.max_def,Int.min_def];(repeat' split)<;>omega)
    go_enter Tryz.func117,Tryz.ntmps117
    go_wp2_with fail
    refine(PA.out _).mono ?_
    rintro e w1 ⟨rfl,b1⟩
    have b2:=(HB.out _).trans (b1.mono (by simp))
    clear b1
    go_wp2_with fail
    go_ret
    exact⟨CV HE.out.symm,b2⟩
   ·have HE:=hide (show R=lo by rw [HM.out];simp only [Int.max_def,Int.min_def];(repeat' split)<;>omega)
    go_enter Tryz.func117,Tryz.ntmps117
    go_wp2_with fail
    refine(PA.out _).mono ?_
    rintro e w1 ⟨rfl,b1⟩
    have b2:=(HB.out _).trans (b1.mono (by simp))
    clear b1
    go_wp2_with fail
    go_ret
    exact⟨CV HE.out.symm,b2⟩
  ·rcases Int.lt_or_le hi x with a2 | a2
   ·have HE:=hide (show R=hi by rw [HM.out];simp only [Int.max_def,Int.min_def];(repeat' split)<;>omega)
    go_enter Tryz.func117,Tryz.ntmps117
    go_wp2_with fail
    refine(PA.out _).mono ?_
    rintro e w1 ⟨rfl,b1⟩
    have b2:=(HB.out _).trans (b1.mono (by simp))
    clear b1
    go_wp2_with fail
    go_ret
    exact⟨CV HE.out.symm,b2⟩
   ·have HE:=hide (show R=x by rw [HM.out];simp only [Int.max_def,Int.min_def];(repeat' split)<;>omega)
    go_enter Tryz.func117,Tryz.ntmps117
    go_wp2_with fail
    refine(PA.out _).mono ?_
    rintro e w1 ⟨rfl,b1⟩
    have b2:=(HB.out _).trans (b1.mono (by simp))
    clear b1
    go_wp2_with fail
    go_ret
    exact⟨CV HE.out.symm,b2⟩
end Go.Proofs.YtoaabebgmdbjeaaGreatDoor
namespace Go.Proofs.YtoaabebgmdbjeaaGreatDoor
open Go.RowKit
end Go.Proofs.YtoaabebgmdbjeaaGreatDoor
namespace Go.Proofs.YtoaabebgmdbjeaaGreatDoor
open Go.RowKit
end Go.Proofs.YtoaabebgmdbjeaaGreatDoor
namespace Go.Proofs.YtoaabebgmdbjeaaGreatDoor
open Go.RowKit
end Go.Proofs.YtoaabebgmdbjeaaGreatDoor
namespace Go.Proofs.YtoaabebgmdbjeaaGreatDoor
open Go.RowKit
def SN.Sc.fit (s:SN.Sc):SN.Sc:=((s.u6 0).u7 (s.g.rows-1)).u11 (TB.news s.g.AB)
theorem Wm (s:SN.Sc) (A:Option Addr) (n cp:Nat) (h1:1<=s.g.rows) (h2:s.g.rows<=40) (h4:s.g.AB<=60) (w:World):
  Calls Tryz.prog 51 #[.agg (scA (.slice A n cp) s)] w fun e w'=>e=.returned (.agg (scA (.slice A n cp) s.fit))/\Below w.heap.size w w':=by
 have TBS:=hide (fun w'=>cB (s.g.AB:Nat) (TB.news s.g.AB) (by simp) w' (by omega) (by omega))
 obtain⟨b,hb,hb'⟩: ∃b:Nat,(s.g.rows:Int)-1=(b:Int)/\s.g.rows-1=b:=⟨s.g.rows-1,by omega,rfl⟩
 obtain⟨tb,htb⟩: ∃tb,TB.news s.g.AB=tb:=⟨_,rfl⟩
 rw [htb] at TBS
 have HS:=hide (show((s.u6 0).u7 b).u11 tb=s.fit by unfold SN.Sc.fit;rw [hb',htb])
 have EB:=hide hb
 clear hb hb' htb
 go_enter Tryz.func51,Tryz.ntmps51
 go_upto_region 1 with (first | (refine BO rfl _ rfl rfl ?_;intro g w1 hB hb1 hg1) | (refine Bf rfl rfl ?_;intro gR w2 csR hR hsR hb2 hgR))
 have hB2:=hB.below hb2 hB.lt
 have hW2:=hb1.trans (hb2.mono hb1.size)
 have mX:=hb1.size
 have hne:gR≠g:=by have:=hB.lt;omega
 have Ai:w.heap.size<=gR:=by omega
 have k0:=hB2.c0
 have k6:=hB2.c6
 have k7:=hB2.c7
 have z6:=hB2.fz 6
 have z7:=hB2.fz 7
 clear hB hb1 hb2
 go_upto_region 2 with fail
 simp only [EB.out]
 have HB4:=hide ((hB2.lN 0).lQ b)
 have HR4:=hide ((hR.far (p:=⟨g,6,none⟩) hne (.int .i64 (0:Nat))).far (p:=⟨g,7,none⟩) hne (.int .i64 (b:Nat)))
 have HW4:=hide ((hW2.setCell (p:=⟨g,6,none⟩) hg1 (.int .i64 (0:Nat))).setCell (p:=⟨g,7,none⟩) hg1 (.int .i64 (b:Nat)))
 generalize ((w2.setCell ⟨g,6,none⟩ (.int .i64 (0:Nat))).setCell ⟨g,7,none⟩ (.int .i64 (b:Nat)))=w4 at HB4 HR4 HW4⊢
 clear k0 k6 k7 z6 z7 hB2 hR hW2
 have k1:w4.cell? ⟨g,1,none⟩=some (.int .i64 (s.g.AB:Nat)):=HB4.out.c1
 have k11:=HB4.out.c11
 have z11:=HB4.out.fz 11
 go_wp2_with fail
 refine(TBS.out _).mono ?_
 rintro e w' ⟨rfl,rfl⟩
 go_upto_region 3 with fail
 have HB5:=hide (HB4.out.Yq tb)
 have HR5:=hide (HR4.out.far (p:=⟨g,11,none⟩) hne (.int .u64 (tb:Nat)))
 have HW5:=hide (HW4.out.setCell (p:=⟨g,11,none⟩) hg1 (.int .u64 (tb:Nat)))
 generalize (w4.setCell ⟨g,11,none⟩ (.int .u64 (tb:Nat)))=w5 at HB5 HR5 HW5⊢
 clear k1 k11 z11 HB4 HR4 HW4
 go_wp2_with (first | (refine AX HB5.out rfl _ rfl rfl ?_) | (refine AQ HR5.out hsR rfl _ _ rfl rfl rfl rfl ?_;intro w8 hB8 hk8 hs8))
 refine bodyPost_ret (Cb rfl rfl hB8) rfl ⟨by rw [HS.out],HW5.out.trans (hk8.toBelow HW5.out.size (fun k hk=>by simp at hk;omega))⟩
def GotC (w:World) (S:SN.Sc) (e:Ending) (w':World):Prop:= ∃x,e=.returned (.agg (scA x S))/\w'.ownsRow w.heap.size 66 5 x (S.g.rows*S.g.AB) (Ag (PG.cells S.g))/\Below w.heap.size w w'
theorem ZY (s:SN.Sc) (v:Value) (hs:PG.BL s.g) (w:World) (h:IsS w s v):Calls Tryz.prog 14 #[v] w (GotC w s):=by
 obtain⟨x,rfl,hg⟩:=h
 obtain⟨A,cp,rfl⟩:=Ad hg
 have hsz:=size_le hs
 have hpos:0<s.g.rows*s.g.AB:=Nat.mul_pos hs.1 hs.2.2.1
 obtain⟨ad,rfl⟩: ∃ad,A=some ad:=by
  obtain⟨hl,_,_⟩:=Jm hg
  obtain⟨ad,h0,_⟩:=hl.at_ (k:=0) (c:=(PG.cells s.g)[0]'(by rw [PG.Aw];exact hpos)) (by simp)
  exact⟨ad,h0⟩
 have SC:=hide (fun w' (hb:Below w.heap.size w w')=>Ls (s.g.rows*s.g.AB) cp w.heap.size ad (PG.cells s.g) w' ((Jm hg).1.below hb) hb.size (by omega))
 have hlen:(PG.cells s.g).length=s.g.rows*s.g.AB:=PG.Aw _
 go_enter Tryz.func14,Tryz.ntmps14
 go_upto_region 1 with (first | (refine BO rfl _ rfl rfl ?_;intro g w1 hB hb1 hg1) | (refine Bf rfl rfl ?_;intro gR w2 csR hR hsR hb2 hgR))
 have HB2:=hide (hB.below hb2 hB.lt)
 have HW2:=hide (hb1.trans (hb2.mono hb1.size))
 have HR2:=hide hR
 have mX:=hb1.size
 have hne:gR≠g:=by have:=hB.lt;omega
 have Ai:w.heap.size<=gR:=by omega
 have k2:=HB2.out.c2
 clear hB hb1 hb2 hR
 go_wp2_with fail
 refine(SC.out _ HW2.out).mono ?_
 rintro e w3 ⟨v3,rfl,hown3,hb3⟩
 obtain⟨A3,c3,rfl,_⟩:=Bb hown3
 have HO3:=hide hown3
 have HB3:=hide (HB2.out.below hb3 HB2.out.lt)
 have HR3:=hide (HR2.out.below hb3 HR2.out.lt)
 have HW3:=hide (HW2.out.trans (hb3.mono HW2.out.size))
 have k2:=HB3.out.c2
 have z2:=HB3.out.fz 2
 have HW2s:w.heap.size<=w2.heap.size:=HW2.out.size
 clear hown3 hb3 HB2 HR2 HW2
 go_upto_region 2 with fail
 have HB5:=hide (show Ak (w3.setCell ⟨g,2,none⟩ (.slice A3 (s.g.rows*s.g.AB) c3)) g (.slice A3 (s.g.rows*s.g.AB) c3) s from Box.set HB3.out 2 _)
 have HR5:=hide (HR3.out.far (p:=⟨g,2,none⟩) hne (.slice A3 (s.g.rows*s.g.AB) c3))
 have HW5:=hide (HW3.out.setCell (p:=⟨g,2,none⟩) hg1 (.slice A3 (s.g.rows*s.g.AB) c3))
 have HO5:=hide (own_base' (BH HO3.out ((Kept.refl [some g] w3).setCell (p:=⟨g,2,none⟩) (From.mem (by simp)) (.slice A3 (s.g.rows*s.g.AB) c3)) (fun b hb hm=>Aa HO3.out HB3.out (by decide) (by simp at hm;rw [hb,hm]))) HW2s)
 generalize (w3.setCell ⟨g,2,none⟩ (.slice A3 (s.g.rows*s.g.AB) c3))=w5 at HB5 HR5 HW5 HO5⊢
 clear k2 z2 HB3 HR3 HW3 HO3
 go_wp2_with (first | (refine AX HB5.out rfl _ rfl rfl ?_) | (refine AQ HR5.out hsR rfl _ _ rfl rfl rfl rfl ?_;intro w8 hB8 hk8 hs8))
 refine bodyPost_ret (Cb rfl rfl hB8) rfl ⟨_,rfl,BH HO5.out hk8 (fun b hb hm=>Aa HO5.out HR5.out (by decide) (by simp at hm;rw [hb,hm])),HW5.out.trans (hk8.toBelow HW5.out.size (fun k hk=>by simp at hk;omega))⟩
theorem Ic (s:SN.Sc) (x:Value) (w:World):Calls Tryz.prog 111 #[.agg (scA x s)] w fun e w'=>e=.returned (.agg #[.int .i64 (-1),.int .i64 s.pen.2.1,.int .i64 0])/\Below w.heap.size w w':=by
 go_enter Tryz.func111,Tryz.ntmps111
 go_upto_region 1 with (first | (refine BO rfl _ rfl rfl ?_;intro g w1 hB hb1 hg1))
 have k9:=fun o=>(hB.alloc o).c9
 have X:=Box.new w1 38 #[.int .i64 0,.int .i64 0,.int .i64 0]
 obtain⟨x0,x1,x2,y0,y1,y2⟩:=X.three
 go_wp2_with fail
 refine bodyPost_ret (v:=.agg #[.int .i64 (-1),.int .i64 s.pen.2.1,.int .i64 0]) (by simp [results,Tryz.results111,go_sem]) rfl ⟨rfl,hb1.alloc hb1.size _⟩
end Go.Proofs.YtoaabebgmdbjeaaGreatDoor
namespace Go.Proofs.YtoaabebgmdbjeaaGreatDoor
open Go.RowKit
def Ea (G:PG.Gr) (v:Value) (w:World):Prop:= ∃A c,v=gv G.rows G.AB (.slice A (G.rows*G.AB) c)/\w.ownsRow 0 66 5 (.slice A (G.rows*G.AB) c) (G.rows*G.AB) (Ag (PG.cells G))
theorem Ea.stays {Ts:List TypeId} {G:PG.Gr} (h:Ts.all (fun x=>x !=66)=true):FZ Ts (Ea G):=
 ⟨fun v w w' ⟨A,c,h1,h2⟩ hb=>⟨A,c,h1,He h2 hb⟩,fun v w w' g' T' cs' ⟨A,c,h1,h2⟩ hb hT hk=>⟨A,c,h1,BH h2 hk (fun b hb' hm=>Aa h2 hb (fun e=>by
  have:=List.all_eq_true.1 h _ hT
  simp [e] at this) (by simp at hm;rw [hb',hm]))⟩⟩
def Qb (G:PG.Gr) (S:SN.Sc) (v:Value) (w:World):Prop:= ∃A c,v=.agg (scA (.slice A (G.rows*G.AB) c) S)/\w.ownsRow 0 66 5 (.slice A (G.rows*G.AB) c) (G.rows*G.AB) (Ag (PG.cells G))
theorem Qb.stays {Ts:List TypeId} {G:PG.Gr} {S:SN.Sc} (h:Ts.all (fun x=>x !=66)=true):FZ Ts (Qb G S):=
 ⟨fun v w w' ⟨A,c,h1,h2⟩ hb=>⟨A,c,h1,He h2 hb⟩,fun v w w' g' T' cs' ⟨A,c,h1,h2⟩ hb hT hk=>⟨A,c,h1,BH h2 hk (fun b hb' hm=>Aa h2 hb (fun e=>by
  have:=List.all_eq_true.1 h _ hT
  simp [e] at this) (by simp at hm;rw [hb',hm]))⟩⟩
theorem Ip {z:Int} {m R:Nat} (hm:1<=m) (h:SN.cut z m=R):((R=1/\z<1)\/((R:Int)=z/\1<=z/\z<=m)\/(R=m/\(m:Int)<z))/\1<=R/\R<=m:=by
 unfold SN.cut at h
 omega
theorem qZ (r c:Int) (R K:Nat) (w:World) (hR:SN.cut r 40=R) (hK:SN.cut c 60=K) (hr: -1099511627776<=r/\r<=1099511627776) (hc: -1099511627776<=c/\c<=1099511627776):
  Calls Tryz.prog 52 #[.int .i64 r,.int .i64 c,pv PG.plain] w (Dk w (PG.newG R K PG.plain)):=
 (fV r c R K PG.plain w (by omega) (by omega) (by omega) (by omega) (Ip (by omega) hR).1 (Ip (by omega) hK).1).mono fun e w' h=>Jl h (PG.Nc R K PG.plain) rfl rfl
theorem Oy (r c:Int) (R K:Nat) (hR:SN.cut r 40=R) (hK:SN.cut c 60=K) (hr: -1099511627776<=r/\r<=1099511627776) (hc: -1099511627776<=c/\c<=1099511627776) (w:World):
  Calls Tryz.prog 21 #[.int .i64 r,.int .i64 c] w (BD w (SN.full R K)):=by
 obtain⟨_,hR1,hR2⟩:=Ip (by omega) hR
 obtain⟨_,hK1,hK2⟩:=Ip (by omega) hK
 have NW:=hide (fun w'=>(show Calls Tryz.prog 52 #[.int .i64 r,.int .i64 c,.agg #[.int .i64 (-1),.int .i64 (-1),.int .i64 0]] w' (Dk w' (PG.newG R K PG.plain)) from qZ r c R K w' hR hK hr hc))
 have PL:=hide (fun w'=>(VX w').mono fun e w'' (h:_/\_)=>(⟨h.1,h.2▸(Below.refl w'.heap.size w').alloc (Nat.le_refl _) _⟩:e=.returned (.agg #[.int .i64 (-1),.int .i64 (-1),.int .i64 0])/\Below w'.heap.size w' w''))
 have FT:=hide (fun A n cp w'=>Wm ⟨PG.newG R K PG.plain,0,0,false,0,0,PG.plain,0,66,66,0,true,false,true,false,false,⟨0,0,PG.plain,66,66,0,false⟩⟩ A n cp (show 1<=R from hR1) (show R<=40 from hR2) (show K<=60 from hK2) w')
 have HGE:=hide (show(SN.full R K).g=PG.newG R K PG.plain from rfl)
 rw [show SN.Sc.fit ⟨PG.newG R K PG.plain,0,0,false,0,0,PG.plain,0,66,66,0,true,false,true,false,false,⟨0,0,PG.plain,66,66,0,false⟩⟩=SN.full R K from rfl] at FT
 generalize PG.newG R K PG.plain=G at NW FT HGE
 obtain⟨S0,hS0⟩: ∃S0:SN.Sc,S0=⟨G,0,0,false,0,0,PG.plain,0,66,66,0,true,false,true,false,false,⟨0,0,PG.plain,66,66,0,false⟩⟩:=⟨_,rfl⟩
 rw [<- hS0] at FT
 have HSE:=hide hS0
 generalize SN.full R K=T at FT HGE⊢
 clear hS0 hR hK hr hc
 go_enter Tryz.func21,Tryz.ntmps21
 go_upto_region 2 with (first | (refine Bf rfl rfl ?_;intro gR w1 csR hR hsR hb1 hgR))
 have HA:=hide (Box.new w1 39 #[.int .u8 66,.int .u8 66])
 have HR:=hide (hR.alloc (.cells #[.int .u8 66,.int .u8 66] 39))
 have HW:=hide (hb1.alloc hb1.size (.cells #[.int .u8 66,.int .u8 66] 39))
 generalize w1.heap.size=gA at HA⊢
 generalize w1.alloc (.cells #[.int .u8 66,.int .u8 66] 39)=w2 at HA HR HW⊢
 clear hR hb1
 refine Bh (n:=18) 11 [] (fun _=> #[]) [(0,0,0,0,0),(0,0,0,0,0),(0,0,0,0,0),(1,0,0,0,0),(0,0,0,0,0),(0,0,0,0,0),(0,0,0,0,0),(0,0,0,0,0),(0,0,0,0,0),(1,0,0,0,0),(1,0,0,0,0),(0,0,0,0,0)] (fun j=> [(.int .i64 r),(.int .i64 c),(.agg #[.int .i64 (-1),.int .i64 (-1),.int .i64 0]),undef,(.agg #[.int .i64 (-1),.int .i64 (-1),.int .i64 0]),(.agg #[.int .u8 66,.int .u8 66]),(.agg #[.int .i64 (-1),.int .i64 (-1),.int .i64 0]),(.agg #[.int .u8 66,.int .u8 66]),(.agg #[.int .i64 0,.int .i64 0,.int .i64 (-1),.int .i64 (-1),.int .i64 0,.int .u8 66,.int .u8 66,.int .i64 0,.bool false]),undef,undef,undef].getD j undef) [none,none,none,some (Ea G),none,none,none,none,none,some (Qb G S0),some (Qb G T)] (fun _=>0) (by kernel_rfl) (by kernel_rfl) (by kernel_rfl) rfl (by kernel_rfl) (by kernel_rfl) (Dt rfl) (fun i j h=>by revert h;exact Dt (p:=fun _=>_) rfl i) (Aj.none_ (Aj.none_ (Aj.none_ (Aj.some_ (Ea.stays (by kernel_rfl)) (Aj.none_ (Aj.none_ (Aj.none_ (Aj.none_ (Aj.none_ (Aj.some_ (Qb.stays (by kernel_rfl)) (Aj.some_ (Qb.stays (by kernel_rfl)) (Aj.nil _)))))))))))) (fun hGS=>K7 ⟨?_,?_,?_,?_,?_,?_,?_,?_,?_,?_,?_⟩) ?_
 ·intro L a w' hL hsame hsz hJ AJ hcl
  refine BG hJ hGS hcl hL 0 (.int .i64 r) (.int .i64 r) (AY hsame (by kernel_rfl)) _ rfl rfl rfl rfl rfl fun ρ _ e0=>?_
  clear hJ hsame AJ hcl hsz
  go_simp
 ·intro L a w' hL hsame hsz hJ AJ hcl
  refine BG hJ hGS hcl hL 1 (.int .i64 c) (.int .i64 c) (AY hsame (by kernel_rfl)) _ rfl rfl rfl rfl rfl fun ρ _ e0=>?_
  clear hJ hsame AJ hcl hsz
  go_simp
 ·intro L a w' hL hsame hsz hJ AJ hcl
  have hb:=hJ.kept.toBelow (Nat.le_refl _) (by simp)
  refine Step.call _ rfl rfl (AV rfl) 53 #[] (fun ρ hρ=>?_) ?_
  ·skip
   have ef:ρ (.func 53)=.func (.func 53) #[] #[] :=(hρ _).symm
   clear hJ hsame AJ hcl hρ hsz hb
   go_simp
  ·refine(PL.out _).mono ?_
   rintro e w2 ⟨rfl,bb⟩
   exact⟨_,rfl,hJ.val hGS hcl hL rfl bb _ rfl⟩
 ·intro L a w' hL hsame hsz hJ AJ hcl
  have hb:=hJ.kept.toBelow (Nat.le_refl _) (by simp)
  have e0:a.eval (.tmp 7)=(.int .i64 r):=AU (j:=0) (by kernel_rfl) (hJ.valOf (by decide) (AZ AJ 0 (by kernel_rfl)) rfl rfl)
  have e1:a.eval (.tmp 8)=(.int .i64 c):=AU (j:=1) (by kernel_rfl) (hJ.valOf (by decide) (AZ AJ 1 (by kernel_rfl)) rfl rfl)
  have e2:a.eval (.tmp 9)=(.agg #[.int .i64 (-1),.int .i64 (-1),.int .i64 0]):=AU (j:=2) (by kernel_rfl) (hJ.valOf (by decide) (AZ AJ 2 (by kernel_rfl)) rfl rfl)
  refine Step.call _ rfl rfl (AV rfl) 52 #[.int .i64 r,.int .i64 c,.agg #[.int .i64 (-1),.int .i64 (-1),.int .i64 0]] (fun ρ hρ=>?_) ?_
  ·skip
   rw [hρ] at e0 e1 e2
   have ef:ρ (.func 52)=.func (.func 52) #[] #[] :=(hρ _).symm
   clear hJ hsame AJ hcl hρ hsz hb
   go_simp
  ·refine(NW.out _).mono ?_
   rintro e w2 ⟨v,rfl,⟨y,rfl,ho⟩,bb⟩
   obtain⟨A3,c3,rfl⟩:=Ad (G:=G) ⟨_,rfl,ho⟩
   exact⟨_,rfl,hJ.pred hGS hcl hL rfl bb _ ⟨A3,c3,rfl,ho⟩⟩
 ·intro L a w' hL hsame hsz hJ AJ hcl
  have hb:=hJ.kept.toBelow (Nat.le_refl _) (by simp)
  refine Step.call _ rfl rfl (AV rfl) 53 #[] (fun ρ hρ=>?_) ?_
  ·skip
   have ef:ρ (.func 53)=.func (.func 53) #[] #[] :=(hρ _).symm
   clear hJ hsame AJ hcl hρ hsz hb
   go_simp
  ·refine(PL.out _).mono ?_
   rintro e w2 ⟨rfl,bb⟩
   exact⟨_,rfl,hJ.val hGS hcl hL rfl bb _ rfl⟩
 ·intro L a w' hL hsame hsz hJ AJ hcl
  have hx:=hJ.Ah (HA.out) (by simp)
  have q0:w'.cell? ⟨gA,0,none⟩=some (.int .u8 66):=hx.cell 0
  have q1:w'.cell? ⟨gA,1,none⟩=some (.int .u8 66):=hx.cell 1
  refine BG hJ hGS hcl hL 5 (.pointer (some ⟨gA,0,none⟩)) (.agg #[.int .u8 66,.int .u8 66]) (AY hsame (by kernel_rfl)) _ rfl rfl rfl rfl rfl fun ρ _ e0=>?_
  clear hJ hsame AJ hcl hsz hx
  go_simp
 ·intro L a w' hL hsame hsz hJ AJ hcl
  have hb:=hJ.kept.toBelow (Nat.le_refl _) (by simp)
  refine Step.call _ rfl rfl (AV rfl) 53 #[] (fun ρ hρ=>?_) ?_
  ·skip
   have ef:ρ (.func 53)=.func (.func 53) #[] #[] :=(hρ _).symm
   clear hJ hsame AJ hcl hρ hsz hb
   go_simp
  ·refine(PL.out _).mono ?_
   rintro e w2 ⟨rfl,bb⟩
   exact⟨_,rfl,hJ.val hGS hcl hL rfl bb _ rfl⟩
 ·intro L a w' hL hsame hsz hJ AJ hcl
  have hx:=hJ.Ah (HA.out) (by simp)
  have q0:w'.cell? ⟨gA,0,none⟩=some (.int .u8 66):=hx.cell 0
  have q1:w'.cell? ⟨gA,1,none⟩=some (.int .u8 66):=hx.cell 1
  refine BG hJ hGS hcl hL 5 (.pointer (some ⟨gA,0,none⟩)) (.agg #[.int .u8 66,.int .u8 66]) (AY hsame (by kernel_rfl)) _ rfl rfl rfl rfl rfl fun ρ _ e0=>?_
  clear hJ hsame AJ hcl hsz hx
  go_simp
 ·intro L a w' hL hsame hsz hJ AJ hcl
  refine JD hJ hGS hcl hL 13 14 (.agg #[.int .i64 (-1),.int .i64 (-1),.int .i64 0]) (.agg #[.int .u8 66,.int .u8 66]) (.agg #[.int .i64 0,.int .i64 0,.int .i64 (-1),.int .i64 (-1),.int .i64 0,.int .u8 66,.int .u8 66,.int .i64 0,.bool false]) (gslot hJ AJ 6 (by kernel_rfl) (by kernel_rfl) (by decide) rfl rfl) (gslot hJ AJ 7 (by kernel_rfl) (by kernel_rfl) (by decide) rfl rfl) _ rfl rfl rfl rfl rfl fun ρ _ e0 e1=>?_
  clear hJ hsame AJ hcl hsz
  go_simp
 ·intro L a w' hL hsame hsz hJ AJ hcl
  have hb:=hJ.kept.toBelow (Nat.le_refl _) (by simp)
  obtain⟨A3,c3,hv3,ho3⟩:=(show(Ea G) (valOf _ 3 a) w' from hJ.Cy (by decide) (AZ AJ 3 (by kernel_rfl)) rfl)
  have e0:a.eval (.tmp 10)=.agg #[.int .i64 (G.rows:Nat),.int .i64 (G.AB:Nat),.slice A3 (G.rows*G.AB) c3] :=AU (j:=3) (by kernel_rfl) hv3
  have e1:a.eval (.tmp 11)=(.agg #[.int .i64 (-1),.int .i64 (-1),.int .i64 0]):=AU (j:=4) (by kernel_rfl) (hJ.valOf (by decide) (AZ AJ 4 (by kernel_rfl)) rfl rfl)
  have e2:a.eval (.tmp 12)=(.agg #[.int .u8 66,.int .u8 66]):=AU (j:=5) (by kernel_rfl) (hJ.valOf (by decide) (AZ AJ 5 (by kernel_rfl)) rfl rfl)
  have e5:a.eval (.tmp 15)=(.agg #[.int .i64 0,.int .i64 0,.int .i64 (-1),.int .i64 (-1),.int .i64 0,.int .u8 66,.int .u8 66,.int .i64 0,.bool false]):=AU (j:=8) (by kernel_rfl) (hJ.valOf (by decide) (AZ AJ 8 (by kernel_rfl)) rfl rfl)
  refine Step.val _ rfl rfl (AV rfl) (.agg (scA (.slice A3 (G.rows*G.AB) c3) S0)) (w') (fun ρ hρ=>?_) (hJ.pred hGS hcl hL rfl (Below.refl _ _) _ (⟨A3,c3,rfl,ho3⟩))
  rw [hρ] at e0 e1 e2 e5
  have ec0:ρ (.const (.bool true))=(.bool true):=(hρ _).symm
  clear hJ hsame AJ hcl hρ hsz hb
  go_simp
  rw [HSE.out]
  rfl
 ·intro L a w' hL hsame hsz hJ AJ hcl
  have hb:=hJ.kept.toBelow (Nat.le_refl _) (by simp)
  obtain⟨A9,c9,hv9,ho9⟩:=(show(Qb G S0) (valOf _ 9 a) w' from hJ.Cy (by decide) (AZ AJ 9 (by kernel_rfl)) rfl)
  have e0:a.eval (.tmp 16)=.agg (scA (.slice A9 (G.rows*G.AB) c9) S0):=AU (j:=9) (by kernel_rfl) hv9
  refine Step.call _ rfl rfl (AV rfl) 51 #[.agg (scA (.slice A9 (G.rows*G.AB) c9) S0)] (fun ρ hρ=>?_) ?_
  ·skip
   rw [hρ] at e0
   have ef:ρ (.func 51)=.func (.func 51) #[] #[] :=(hρ _).symm
   clear hJ hsame AJ hcl hρ hsz hb
   go_simp
  ·refine(FT.out _ _ _ _).mono ?_
   rintro e w2 ⟨rfl,bb⟩
   exact⟨_,rfl,hJ.pred hGS hcl hL rfl bb _ ⟨A9,c9,rfl,He ho9 bb⟩⟩
 ·intro L u w' hF hall
  change wpList _ _ _ _ (Act.put (Act.put (Act.put (Act.put (Act.put (Act.put (Act.put (Act.put (Act.put (Act.put (Act.put (Act.put (Az _ u 0 _) (some 7) (u 0)) (some 8) (u 1)) (some 9) (u 2)) (some 10) (u 3)) (some 11) (u 4)) (some 12) (u 5)) (some 13) (u 6)) (some 14) (u 7)) (some 15) (u 8)) (some 16) (u 9)) (some 17) (u 10)) none (u 11)) _
  simp only [Az]
  obtain⟨A4,c4,f10,ho4⟩:=(show Qb G T (u 10) w' from hF.Cy (j:=10) (by decide) (hall 10 (by decide)) rfl)
  have hk:=hF.kept.toBelow (Nat.le_refl _) (by simp)
  clear hF
  generalize u 0=z0
  generalize u 1=z1
  generalize u 2=z2
  generalize u 3=z3
  generalize u 4=z4
  generalize u 5=z5
  generalize u 6=z6
  generalize u 7=z7
  generalize u 8=z8
  generalize u 9=z9
  generalize u 10=z10 at f10⊢
  generalize u 11=z11
  subst f10
  simp only [List.drop_succ_cons,List.drop_zero]
  refine AQ (x:=.slice A4 (G.rows*G.AB) c4) (s:=T) (HR.out.below hk HR.out.lt) hsR rfl _ _ rfl (by go_simp) (by go_simp) rfl ?_
  intro w8 hB8 hk8 hs8
  change Exit.then _ _ Exit.normal _ _
  go_simp
  go_step
  refine wp_ret ?_
  (try simp only [Exit.then,Exit.inBlock])
  have hw:=HW.out.trans (hk.mono HW.out.size)
  refine bodyPost_ret (Cb rfl rfl hB8) rfl ⟨_,rfl,⟨_,rfl,?_⟩,hw.trans (hk8.toBelow hw.size (fun k hh=>by simp at hh;omega))⟩
  rw [HGE.out]
  exact IsG.kept (G:=G) ⟨_,rfl,ho4⟩ (HR.out.below hk HR.out.lt) (by decide) hk8
end Go.Proofs.YtoaabebgmdbjeaaGreatDoor
namespace Go.Proofs.YtoaabebgmdbjeaaGreatDoor
open Go.RowKit
theorem Wn:(Tryz.prog.info? 37).map (·.size)=some 3:=by kernel_rfl
theorem Cc {ops:Array Oper} {rest:List Oper} {o:Oper} {a:Act} {w:World} {Q:Exit->Act->World->Prop} {x y:Value} {s:SN.Sc} {g:Nat} {G:PG.Gr} (h:Ak w g x s) (hgd:o.guard=none) (p z:Operand) (ho:o.op=.store 37 p z) (hx:a.eval p=.pointer (some ⟨g,0,none⟩))
  (hy:a.eval z=.agg #[.int .i64 G.rows,.int .i64 G.AB,y]) (h1:y.oneCell'=true)
  (hk: ∀w',Ak w' g y (s.uG G)->Kept [some g] w w'->w'.heap.size=w.heap.size->wpList Tryz.prog ops Q rest (a.put o.dst undef) w'):wpList Tryz.prog ops Q (o::rest) a w:=
 Fb 0 h (by show 0+3<=(scA x s).size;rw [Lu];decide) hgd _ p z ho hx hy Wn (by cases y<;>first | (simp [Value.oneCell'];done) | (simp [Value.oneCell'] at h1)) (fun w' h1 h2 h3=>hk w' (by
  have e:=Yn x y s G
  show Box w' g _ _
  rw [<- e]
  exact h1) h2 h3)
end Go.Proofs.YtoaabebgmdbjeaaGreatDoor
