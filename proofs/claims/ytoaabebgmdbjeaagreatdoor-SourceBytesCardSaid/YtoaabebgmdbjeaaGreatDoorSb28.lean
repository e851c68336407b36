/- A part of the proof: SourceBytes, SourceBytesAny. -/
import Derived.Test.YtoaabebgmdbjeaaGreatDoorSb27
set_option maxRecDepth 100000
set_option maxHeartbeats 16000000
set_option linter.unusedVariables false
namespace Go.Proofs.YtoaabebgmdbjeaaGreatDoor
open Go Go.RowKit
theorem bL (T:SN.Sc) (A A':Option Addr) (c c':Nat) (hT:SN.Ac T) (w:World) (h:IsG w T.g (gv T.g.rows T.g.AB (.slice A (T.g.rows*T.g.AB) c))) (h':IsG w T.g (gv T.g.rows T.g.AB (.slice A' (T.g.rows*T.g.AB) c'))):
  Calls Tryz.prog 23 #[.agg (scA (.slice A (T.g.rows*T.g.AB) c) T),.agg (scA (.slice A' (T.g.rows*T.g.AB) c') T)] w fun e w'=>e=.returned (.bool true)/\Below w.heap.size w w':=
 aR (SN.raw T) _ _ w h h'
def J5 (A:Option Addr) (d e c:Nat):Value:=.slice (if c=d then A else A.map (·.add (d*1))) (e-d) (c-d)
theorem Xr (ρ:Operand->Value) (w:World) (A:Option Addr) (n c k:Nat) (x y:Operand) (hx:ρ x=.slice A n c) (hy:ρ y=.int .i64 (k:Nat)) (h2:k<=c) (dst:Option Tmp) (t:TypeId) (p:String) (af:Array Edge) (g:Option (Nat × Bool)):
  (execOp ρ ⟨dst,.slice 30 x none (some y) none,t,p,af,g⟩).run Tryz.prog w=.ok (.value (J5 A 0 k c)) w:=by
 have h2':(k:Int)<=c:=by omega
 have h3':(0:Int)<=k:=by omega
 unfold J5
 go_simp
theorem Xt (ρ:Operand->Value) (w:World) (A:Option Addr) (n c k:Nat) (x y:Operand) (hx:ρ x=.slice A n c) (hy:ρ y=.int .i64 (k:Nat)) (h1:k<=n) (dst:Option Tmp) (t:TypeId) (p:String) (af:Array Edge) (g:Option (Nat × Bool)):
  (execOp ρ ⟨dst,.slice 30 x (some y) none none,t,p,af,g⟩).run Tryz.prog w=.ok (.value (J5 A k n c)) w:=by
 have h1':(k:Int)<=n:=by omega
 have h3':(0:Int)<=k:=by omega
 unfold J5
 go_simp
theorem OP {w:World} {B n c d e m:Nat} {A:Option Addr} {l:List Int} (h:Seen w B A n (u8s l)) (hd:d<=e) (he:e<=n) (hc:n<=c) (hm:e-d=m):Seen w B (if c=d then A else A.map (·.add (d*1))) m (u8s ((l.take e).drop d)):=by
 subst hm
 have h1:=Seen.drop (Seen.take h he) (k:=d) (cap:=c) hd (by omega)
 simpa [u8s,List.map_drop,List.map_take] using h1
theorem Q9 {A:Option Addr} {d c:Nat} {L:List (Option Nat)} (h: ∀ad,A=some ad->some ad.block∉L): ∀ad,(if c=d then A else A.map (·.add (d*1)))=some ad->some ad.block∉L:=fun ad e=>by
 split at e
 ·exact h ad e
 ·cases A with
  | none=>cases e
  | some a=>
   simp only [Option.map_some,Option.some.injEq] at e
   subst e
   rw [addBlock]
   exact h a rfl
def EvM (es:List PA.Ev) (v:Value) (w:World):Prop:= ∃(A:Option Addr) (c:Nat) (M:List (PA.Ev × Value)),v=.slice A M.length c/\M.length<=c/\M.map (·.1)=es/\Ga w A M.length M/\ ∀p∈M,Jy p.2
theorem EvM.stays {es:List PA.Ev}:FZ [] (EvM es):=⟨fun v w w' ⟨A,c,M,h1,h2,h3,h4,h5⟩ hb=>⟨A,c,M,h1,h2,h3,h4.kept hb,h5⟩,fun v w w' g' T' cs' h hb hT hk=>by simp at hT⟩
theorem bM {w:World} {B c:Nat} {A:Option Addr} {M:List (PA.Ev × Value)} (h:w.ownsRow B 34 7 (.slice A M.length c) M.length (CF M)) (hp: ∀p∈M,kK w p):Ga w A M.length M:=by
 refine⟨rfl,fun k p hk=>?_⟩
 have hkl:k<M.length:=(List.getElem?_eq_some_iff.1 hk).1
 rcases h.2 with ⟨hv,h0⟩ | ⟨gb,cap,cur,hv,_,hh,_⟩
 ·omega
 ·injection hv with h1 h2 h3
  subst h1 h3
  refine⟨gb,rfl,(Array.getElem?_eq_some_iff.1 hh).1,fun j u hu=>?_,hp p (List.mem_of_getElem? hk)⟩
  have hj:j<7:=(List.getElem?_eq_some_iff.1 hu).1
  rw [h.cellAt _ (by omega)]
  exact KP M k j p u hk hu
theorem D8 {L:Nat->Bool} {i j:Nat} (h:j≠i):mark L i j=L j:=if_neg h
theorem upd_ne {u:Nat->Value} {v:Value} {i j:Nat} (h:j≠i):upd u i v j=u j:=if_neg h
def BJs (j:Nat):Bool:=decide (j<13/\j≠2/\j≠7/\j≠12)
def BJ (B q:Nat) (F T1 T:SN.Sc) (P1:PA.S) (w0:World) (vals:Nat->Value) (L:Nat->Bool) (u:Nat->Value) (w:World):Prop:=
 (∀j,BJs j=true->L j=true->u j=vals j)/\
 (L 7=false->L 12=false/\Below w0.heap.size w0 w/\(L 2=true->C8 F (u 2) w))/\
 (L 7=true->L 12=false->C8 T1 (u 7) w/\ ∃vp vt,PB w B q P1 vp vt/\Kept [some q] w0 w/\From w0 [] vp.ownBlock/\From w0 [] vt.ownBlock)/\
 (L 12=true->C8 T (u 12) w/\Kept [some q] w0 w)/\
 (L 13=true-> ∃g cs,u 13=.pointer (some ⟨g,0,none⟩)/\w0.heap.size<=g/\Box w g 43 cs/\cs.size=29)
section
variable {B q:Nat} {F T1 T:SN.Sc} {P1:PA.S} {w0 w w':World} {vals:Nat->Value} {L:Nat->Bool} {u u':Nat->Value} {v:Value}
theorem C8.low {S:SN.Sc} (h:C8 S v w) (b:Below w.heap.size w w'):C8 S v w':=(C8.stays (Ts:= []) rfl).1 v w w' h b
theorem BJ.same (h:BJ B q F T1 T P1 w0 vals L u w) (e: ∀j,j<15->u j=u' j):BJ B q F T1 T P1 w0 vals L u' w:=by
 obtain⟨a,b,c,d,f⟩:=h
 refine⟨fun j hj hl=>?_,?_,?_,?_,?_⟩
 ·rw [<- e j (by have:=of_decide_eq_true hj;omega)]
  exact a j hj hl
 ·rw [<- e 2 (by decide)];exact b
 ·rw [<- e 7 (by decide)];exact c
 ·rw [<- e 12 (by decide)];exact d
 ·rw [<- e 13 (by decide)];exact f
theorem BJ.val (h:BJ B q F T1 T P1 w0 vals L u w) (i:Nat) (hi:BJs i=true):BJ B q F T1 T P1 w0 vals (mark L i) (upd u i (vals i)) w:=by
 have hd:=of_decide_eq_true hi
 obtain⟨a,b,c,d,f⟩:=h
 refine⟨fun j hj hl=>?_,?_,?_,?_,?_⟩
 ·by_cases e:j=i
  ·subst e
   exact if_pos rfl
  ·rw [upd_ne e]
   rw [D8 e] at hl
   exact a j hj hl
 ·rw [D8 (show 7≠i by omega),D8 (show 12≠i by omega),D8 (show 2≠i by omega),upd_ne (show 2≠i by omega)];exact b
 ·rw [D8 (show 7≠i by omega),D8 (show 12≠i by omega),upd_ne (show 7≠i by omega)];exact c
 ·rw [D8 (show 12≠i by omega),upd_ne (show 12≠i by omega)];exact d
 ·rw [D8 (show 13≠i by omega),upd_ne (show 13≠i by omega)];exact f
theorem BJ.below (h:BJ B q F T1 T P1 w0 vals L u w) (k:Below w.heap.size w w') (hs:w0.heap.size<=w.heap.size):BJ B q F T1 T P1 w0 vals L u w':=by
 obtain⟨a,b,c,d,f⟩:=h
 refine⟨a,fun h7=>?_,fun h7 h12=>?_,fun h12=>?_,fun h13=>?_⟩
 ·obtain⟨b1,b2,b3⟩:=b h7
  exact⟨b1,b2.trans (k.mono hs),fun h2=>(b3 h2).low k⟩
 ·obtain⟨c1,vp,vt,c2,c3,c4⟩:=c h7 h12
  exact⟨c1.low k,vp,vt,c2.below k,c3.below k,c4⟩
 ·exact⟨(d h12).1.low k,(d h12).2.below k⟩
 ·obtain⟨g,cs,f1,f2,f3,f4⟩:=f h13
  exact⟨g,cs,f1,f2,f3.below k f3.lt,f4⟩
theorem BJ.size (h:BJ B q F T1 T P1 w0 vals L u w):w0.heap.size<=w.heap.size:=by
 obtain⟨a,b,c,d,f⟩:=h
 cases h12:L 12 with
 | true=>exact(d h12).2.size
 | false=>
  cases h7:L 7 with
  | false=>exact(b h7).2.1.size
  | true=>
   obtain⟨_,_,_,_,c3,_⟩:=c h7 h12
   exact c3.size
theorem BJ.new (h:BJ B q F T1 T P1 w0 vals L u w) (h7:L 7=false) (k:Below w.heap.size w w') (hv:C8 F v w'):BJ B q F T1 T P1 w0 vals (mark L 2) (upd u 2 v) w':=by
 obtain⟨a,b,c,d,f⟩:=h.below k h.size
 refine⟨fun j hj hl=>?_,fun _=>⟨(b h7).1,(b h7).2.1,fun _=>hv⟩,c,d,f⟩
 have e:j≠2:=(of_decide_eq_true hj).2.1
 rw [upd_ne e]
 rw [D8 e] at hl
 exact a j hj hl
theorem BJ.box (h:BJ B q F T1 T P1 w0 vals L u w) (cs:Array Value) (hs:cs.size=29):BJ B q F T1 T P1 w0 vals (mark L 13) (upd u 13 (.pointer (some ⟨w.heap.size,0,none⟩))) (w.alloc (.cells cs 43)):=by
 have hz:=h.size
 obtain⟨a,b,c,d,f⟩:=h.below ((Below.refl w.heap.size w).alloc (Nat.le_refl _) (.cells cs 43)) h.size
 refine⟨fun j hj hl=>?_,b,c,d,fun _=>⟨_,cs,rfl,hz,Box.new _ _ _,hs⟩⟩
 have e:j≠13:=by have:=(of_decide_eq_true hj).1;omega
 rw [upd_ne e]
 rw [D8 e] at hl
 exact a j hj hl
theorem BJ.fed1 (h:BJ B q F T1 T P1 w0 vals L u w) (h7:L 7=false) {vp vt:Value} (k:Kept [some q] w w') (hq: ∃cs,Box w q 99 cs) (hv:C8 T1 v w') (hp:PB w' B q P1 vp vt) (f1:From w [] vp.ownBlock) (f2:From w [] vt.ownBlock):BJ B q F T1 T P1 w0 vals (mark L 7) (upd u 7 v) w':=by
 have hz:=h.size
 obtain⟨a,b,c,d,f⟩:=h
 obtain⟨b1,b2,b3⟩:=b h7
 obtain⟨qs,hq⟩:=hq
 refine⟨fun j hj hl=>?_,fun e=>?_,fun _ _=>⟨hv,vp,vt,hp,(Kept.of_below b2).trans k (fun x hx=>From.mem hx),f1.later hz,f2.later hz⟩,fun e=>?_,fun e=>?_⟩
 ·have e:j≠7:=(of_decide_eq_true hj).2.2.1
  rw [upd_ne e]
  rw [D8 e] at hl
  exact a j hj hl
 ·cases (show mark L 7 7=true from if_pos rfl).symm.trans e
 ·rw [D8 (by decide),b1] at e
  cases e
 ·obtain⟨g,cs,g1,g2,g3,g4⟩:=f e
  exact⟨g,cs,g1,g2,g3.kept k (by simp only [List.mem_singleton,Option.some.injEq];intro hh;subst hh;exact absurd (Gs g3 hq) (by decide)),g4⟩
theorem BJ.fed2 (h:BJ B q F T1 T P1 w0 vals L u w) (h7:L 7=true) (h12:L 12=false) {vp vt:Value} (hv:C8 T v w') (c2:PB w B q P1 vp vt) (c3:Kept [some q] w0 w) (c4:From w0 [] vp.ownBlock) (c5:From w0 [] vt.ownBlock) (k:Kept [some q,vp.ownBlock,vt.ownBlock] w w'):BJ B q F T1 T P1 w0 vals (mark L 12) (upd u 12 v) w':=by
 obtain⟨a,b,c,d,f⟩:=h
 have fr: ∀o,From w0 [] o->From w0 [some q] o:=fun o h=>h.mono (fun x hx=>by simp at hx)
 refine⟨fun j hj hl=>?_,fun e=>?_,fun _ e=>?_,fun _=>⟨hv,c3.trans k (fun x hx=>by
  simp only [List.mem_cons,List.not_mem_nil,or_false] at hx
  rcases hx with rfl | rfl | rfl
  ·exact From.mem (by simp)
  ·exact fr _ c4
  ·exact fr _ c5)⟩,fun e=>?_⟩
 ·have e:j≠12:=(of_decide_eq_true hj).2.2.2
  rw [upd_ne e]
  rw [D8 e] at hl
  exact a j hj hl
 ·rw [D8 (by decide),h7] at e
  cases e
 ·cases (show mark L 12 12=true from if_pos rfl).symm.trans e
 ·obtain⟨g,cs,g1,g2,g3,g4⟩:=f e
  refine⟨g,cs,g1,g2,g3.kept k ?_,g4⟩
  simp only [List.mem_cons,List.not_mem_nil,or_false,not_or]
  exact⟨by intro hh;cases hh;exact absurd (Gs g3 c2.box) (by decide),(Aa c2.par g3 (by decide)).symm,(Aa c2.txt g3 (by decide)).symm⟩
end
theorem NN (rw_ cl cu:Int) (Ab:Option Addr) (nb cb:Nat) (lb:List Int) (w:World) (hr: -9223372036854775808<=rw_/\rw_<=9223372036854775807) (hc: -9223372036854775808<=cl/\cl<=9223372036854775807) (hcu: -9223372036854775808<=cu/\cu<=9223372036854775807) (hA:Arg .u8 w Ab nb cb lb) (hT:Hq w) (ht:F9 w):
  Calls Tryz.prog 5 #[.int .i64 rw_,.int .i64 cl,.slice Ab nb cb,.int .i64 cu] w fun e w'=>e=.returned (.bool true)/\Below w.heap.size w w':=by
 obtain⟨i8,hi8,hy0,hy1,hy2⟩:=info_parts K5
 have hbb: ∀x∈lb,0<=x/\x<256:=fun x hx=>by have:=hA.wf x hx;simp [Lit.wf,IntKind.min,IntKind.max,IntKind.signed,IntKind.bits] at this;omega
 have hnb:=hA.le
 have hcap:=hA.cap
 unfold maxLen at hcap
 have hS0:=hA.seen
 have hlb:lb.length=nb:=by have:=hS0.1;simpa [u8s] using this
 obtain⟨R,hR⟩: ∃R:Nat,1+rw_%(5-1+1)=(R:Int):=⟨(1+rw_%(5-1+1)).toNat,by omega⟩
 obtain⟨K,hK⟩: ∃K:Nat,1+cl%(9-1+1)=(K:Int):=⟨(1+cl%(9-1+1)).toNat,by omega⟩
 have hR1:1<=R/\R<=5:=by omega
 have hK1:1<=K/\K<=9:=by omega
 obtain⟨O,hO⟩: ∃O,lb.take 80=O:=⟨_,rfl⟩
 obtain⟨m,hm⟩: ∃m,O.length=m:=⟨_,rfl⟩
 have hm80:m<=80/\m<=nb/\(nb<=80->m=nb)/\(80<nb->m=80):=by
  rw [<- hm, <- hO,List.length_take,hlb]
  omega
 obtain⟨k,hk⟩: ∃k:Nat,0+cu%((m:Int)-0+1)=(k:Int):=⟨(0+cu%((m:Int)-0+1)).toNat,by have:=Int.emod_nonneg cu (b:=(m:Int)-0+1) (by omega);omega⟩
 have hkm:k<=m:=by have:=Int.emod_lt_of_pos cu (b:=(m:Int)-0+1) (by omega);omega
 have WA:=hide (fun w'=>J6 rw_ 1 5 R hR w' hr.1 hr.2 (by omega) (by omega) (by omega))
 have WB:=hide (fun w'=>J6 cl 1 9 K hK w' hc.1 hc.2 (by omega) (by omega) (by omega))
 have WC:=hide (fun w'=>J6 cu 0 (m:Int) k hk w' hcu.1 hcu.2 (by omega) (by omega) (by omega))
 have HS1:=hide (show Seen w w.heap.size Ab m (u8s O) by
  have h1:=hS0.take (k:=m) hm80.2.1
  have e:lb.take m=O:=by
   rw [<- hO]
   rcases Nat.lt_or_ge 80 nb with h | h
   ·rw [hm80.2.2.2 h]
   ·rw [hm80.2.2.1 h,List.take_of_length_le (by omega),List.take_of_length_le (by omega)]
  rw [<- e]
  simpa [u8s,List.map_take] using h1)
 have HOB:=hide (show∀x∈O,0<=x/\x<256 from fun x hx=>hbb x (by rw [<- hO] at hx;exact List.mem_of_mem_take hx))
 have HOL:=hide hm
 obtain⟨F,hF⟩: ∃F,SN.full R K=F:=⟨_,rfl⟩
 have RF:=hide (hF▸SN.JB hR1.1 (by omega) hK1.1 (by omega):SN.Ac F)
 have NW:=hide (fun w'=>hF▸Oy (R:Int) (K:Int) R K (by unfold SN.cut;omega) (by unfold SN.cut;omega) (by omega) (by omega) w')
 obtain⟨T,hTT⟩: ∃T,SN.CR F (PA.feed PA.s0 O).2=T:=⟨_,rfl⟩
 have HTT:=hide hTT
 have RT:=hide (show SN.Ac T from hTT▸SN.Ef RF.out _)
 have HT:=hide hT
 have HTB:=hide ht
 have h2:=ht.lt
 have LO0:=hide (Below.refl w.heap.size w)
 have FD:=hide (fun (q:Nat) (P:PA.S) (vp vt:Value) (s:SN.Sc) (v:Value) (A:Option Addr) (n c:Nat) (l:List Int) (w':World) (hw:Below w.heap.size w w') (hs:SN.Ac s) (hP:PB w' w.heap.size q P vp vt) (hk:P.ok) (hpp:P.d.parts<=1000000) (hA:Seen w' w'.heap.size A n (u8s l)) (hl: ∀x∈l,0<=x/\x<256) (hn:n<=100000) (hL: ∀ad,A=some ad->some ad.block∉ [some q,vp.ownBlock,vt.ownBlock]) h=>
  Ml w.heap.size q P vp vt s v A n c l w' hs hP hk hpp hA hl hn (fun _=>hL) h2 (ht.keep hw) (fun w2 hb2=>hT.keep (hw.trans hb2)) h)
 clear hT ht hA hS0 hO hF hTT hbb hm hR hK hr hc hcu hk
 go_enter Tryz.func5,Tryz.ntmps5
 go_wp2_with fail
 refine(WA.out _).mono ?_
 rintro e w' ⟨rfl,rfl⟩
 go_wp2_with fail
 refine(WB.out _).mono ?_
 rintro e w' ⟨rfl,rfl⟩
 go_upto_region 2 with fail
 clear WA WB
 go_cut [11] from 21 to 27 (fun u wx=> ∃Ao co,u=.slice Ao m co/\m<=co/\wx.ownsRow w.heap.size 5 1 (.slice Ao m co) m (u8s O)/\Below w.heap.size w wx)
 case first=>
  have hmc:m<=cb:=by omega
  by_cases h80:nb<=80
  ·obtain rfl:m=nb:=hm80.2.2.1 h80
   have h80i:(m:Int)<=80:=by omega
   go_wp2_with (at_builtin;go_must (refine GD rfl (.tmp 21) (.tmp 26) 30 rfl w.heap.size 5 i8 _ 1 Tryz.underlying30 hi8 hy0 hy1 hy2 rfl (.slice (some ⟨w.heap.size,0,none⟩) 0 0) 0 [] rfl (JU _ rfl (Nat.le_refl _)) w.heap.size _ _ _ (u8s O) rfl (HS1.out.below (Below.alloc (Below.refl _ _) (Nat.le_refl _) _)) (UM O) (by omega) (by omega) (by simp) ?_);intro v1 w1 hown1 hg1 hm1;obtain⟨Ao,co,rfl,hco,_⟩:=C9 hown1)
   have bb:Below w.heap.size w w1:=Below.trans (Below.alloc (Below.refl _ _) (Nat.le_refl _) _) (Dh hg1 (by simp) (fun g hg=>by simp [Value.ownBlock] at hg;omega))
   simp only [Nat.zero_add,List.nil_append] at hown1 hco
   go_meet
   first | exact⟨Ao,co,by simp,hco,hown1,bb⟩ | exact⟨Ao,co,rfl,hco,hown1,bb⟩
  ·obtain rfl:m=80:=hm80.2.2.2 (by omega)
   have h80i: ¬(nb:Int)<=80:=by omega
   have h80j:(80:Int)<=(nb:Int):=by omega
   have h80c:(80:Int)<=(cb:Int):=by omega
   have h80m:min (nb:Int) 80=80:=by omega
   go_wp2_with (at_builtin;go_must (refine GD rfl (.tmp 21) (.tmp 26) 30 rfl w.heap.size 5 i8 _ 1 Tryz.underlying30 hi8 hy0 hy1 hy2 rfl (.slice (some ⟨w.heap.size,0,none⟩) 0 0) 0 [] rfl (JU _ rfl (Nat.le_refl _)) w.heap.size _ _ _ (u8s O) rfl (HS1.out.below (Below.alloc (Below.refl _ _) (Nat.le_refl _) _)) (UM O) (by omega) (by omega) (by simp) ?_);intro v1 w1 hown1 hg1 hm1;obtain⟨Ao,co,rfl,hco,_⟩:=C9 hown1)
   have bb:Below w.heap.size w w1:=Below.trans (Below.alloc (Below.refl _ _) (Nat.le_refl _) _) (Dh hg1 (by simp) (fun g hg=>by simp [Value.ownBlock] at hg;omega))
   simp only [Nat.zero_add,List.nil_append] at hown1 hco
   go_meet
   first | exact⟨Ao,co,by simp,hco,hown1,bb⟩ | exact⟨Ao,co,rfl,hco,hown1,bb⟩
 case rest=>
  obtain⟨Ao,co,rfl,hco,hown,hb1⟩:=hcut
  rename World=>w1
  have HO1:=hide hown
  have LO1:=hide hb1
  clear hown hb1 HS1 LO0
  go_wp2_with fail
  refine(WC.out _).mono ?_
  rintro e w' ⟨rfl,rfl⟩
  go_wp2_with fail
  clear WC
  refine(MQ _).mono ?_
  rintro e w2 ⟨rfl,rfl⟩
  have hP:=TH w1 w.heap.size LO1.out.size
  have bel:=(Below.refl w1.heap.size w1).alloc (Nat.le_refl _) (.cells (Cz PA.s0 (.slice none 0 0) (.slice none 0 0)) 99)
  have HO2:=hide (BH HO1.out (Kept.of_below (L:= []) bel) (by simp))
  have LO2:=hide (LO1.out.trans (bel.mono LO1.out.size))
  have jo:w1.heap.size<(w1.alloc (.cells (Cz PA.s0 (.slice none 0 0) (.slice none 0 0)) 99)).heap.size:=by simp
  generalize w1.alloc (.cells (Cz PA.s0 (.slice none 0 0) (.slice none 0 0)) 99)=w2 at hP HO2 LO2 jo⊢
  have hq1w:=LO1.out.size
  generalize w1.heap.size=q1 at hP jo hq1w⊢
  have HP2:=hide hP
  clear hP bel HO1 LO1
  go_wp2_with fail
  refine(MQ _).mono ?_
  rintro e w3 ⟨rfl,rfl⟩
  have hP:=TH w2 w.heap.size LO2.out.size
  have bel:=(Below.refl w2.heap.size w2).alloc (Nat.le_refl _) (.cells (Cz PA.s0 (.slice none 0 0) (.slice none 0 0)) 99)
  have HO3:=hide (BH HO2.out (Kept.of_below (L:= []) bel) (by simp))
  have LO3:=hide (LO2.out.trans (bel.mono LO2.out.size))
  have HP3:=hide (HP2.out.below bel)
  have oL:w2.heap.size<(w2.alloc (.cells (Cz PA.s0 (.slice none 0 0) (.slice none 0 0)) 99)).heap.size:=by simp
  generalize w2.alloc (.cells (Cz PA.s0 (.slice none 0 0) (.slice none 0 0)) 99)=w3 at hP HO3 LO3 HP3 oL⊢
  generalize w2.heap.size=q2 at hP oL jo⊢
  have HQ3:=hide hP
  have hq12:q1≠q2:=by omega
  clear hP bel HO2 LO2 HP2 jo oL
  go_upto_region 7 with fail
  go_wp2_with fail
  refine(NW.out _).mono ?_
  rintro e w4 ⟨v4,rfl,⟨x4,rfl,hg4⟩,hb4⟩
  obtain⟨A4,c4,rfl⟩:=Ad hg4
  have HO4:=hide (BH HO3.out (Kept.of_below (L:= []) hb4) (by simp))
  have LO4:=hide (LO3.out.trans (hb4.mono LO3.out.size))
  have HP4:=hide (HP3.out.below hb4)
  have HQ4:=hide (HQ3.out.below hb4)
  have HG4:=hide hg4
  clear hb4 hg4 HO3 LO3 HP3 HQ3
  go_wp2_with fail
  have sD: ∀q:Nat,Box w4 q 99 (Cz PA.s0 (.slice none 0 0) (.slice none 0 0))-> ∀ad,Ao=some ad->some ad.block∉ [some q,(Value.slice none 0 0).ownBlock,(Value.slice none 0 0).ownBlock] :=fun q hb ad e=>by
   subst e
   have h1:=Aa HO4.out hb (by decide)
   simp [Value.ownBlock] at h1⊢
   exact h1
  refine(FD.out q1 PA.s0 (.slice none 0 0) (.slice none 0 0) F _ Ao m co O w4 LO4.out RF.out HP4.out PA.Nk (by decide) (Seen.Bu HO4.out) HOB.out (by omega) (sD q1 HP4.out.box) ⟨_,rfl,HG4.out⟩).mono ?_
  rintro e w5 ⟨v5,vp5,vt5,rfl,⟨x5,rfl,hg5⟩,_,hk5,_,_⟩
  rw [HTT.out] at hg5⊢
  obtain⟨A5,c5,rfl⟩:=Ad hg5
  have hk5:Kept [some q1] w4 w5:=(Kept.refl [some q1] w4).trans hk5 (fun x hx=>by
   simp [Value.ownBlock] at hx
   rcases hx with rfl | rfl
   ·exact From.mem (by simp)
   ·exact From.none _ _)
  have HO5:=hide (BH HO4.out hk5 (fun b hb hm=>by simp only [List.mem_singleton] at hm;exact Aa HO4.out HP4.out.box (by decide) (hb.trans hm)))
  have LO5:=hide (LO4.out.trans (hk5.toBelow LO4.out.size (fun k hh=>by simp at hh;omega)))
  have HQ5:=hide (HQ4.out.kept hk5 (by simp;exact hq12.symm) (by simp [Value.ownBlock]) (by simp [Value.ownBlock]))
  have HG5:=hide hg5
  clear hk5 hg5 HO4 LO4 HP4 HQ4 HG4 sD
  go_upto_region 8 with (first | (refine Bf rfl rfl ?_;intro gs wags csgs O8 nM KW nN) | (refine AQ O8 nM rfl _ _ rfl rfl rfl rfl ?_;intro G8 aM Mq nO))
  have qy:w.heap.size<=gs:=by have:=LO5.out.size;omega
  have hq2s:q2≠gs:=by have:=HQ5.out.lt;omega
  have HO6:=hide (BH (BH HO5.out (Kept.of_below (L:= []) KW) (by simp)) Mq (fun b hb hm=>by simp only [List.mem_singleton] at hm;exact Aa (BH HO5.out (Kept.of_below (L:= []) KW) (by simp)) O8 (by decide) (hb.trans hm)))
  have LO6:=hide ((LO5.out.trans (KW.mono LO5.out.size)).trans (Mq.toBelow (Nat.le_trans LO5.out.size KW.size) (fun k hh=>by simp at hh;omega)))
  have HQ6:=hide ((HQ5.out.below KW).kept Mq (by simp;exact hq2s) (by simp [Value.ownBlock]) (by simp [Value.ownBlock]))
  have HG6:=hide ((HG5.out.low KW).kept O8 (by decide) Mq)
  have HS6:=hide aM
  clear KW Mq O8 aM nN HO5 LO5 HQ5 HG5 nO
  obtain⟨O1,hO1⟩: ∃l,O.take k=l:=⟨_,rfl⟩
  obtain⟨O2,hO2⟩: ∃l,O.drop k=l:=⟨_,rfl⟩
  have hOO:O1++O2=O:=by rw [<- hO1, <- hO2];exact List.take_append_drop k O
  obtain⟨P1,hP1⟩: ∃P,(PA.feed PA.s0 O1).1=P:=⟨_,rfl⟩
  obtain⟨T1,hT1⟩: ∃S,SN.CR F (PA.feed PA.s0 O1).2=S:=⟨_,rfl⟩
  have hb1: ∀x∈O1,0<=x/\x<256:=fun x hx=>HOB.out x (by rw [<- hOO];exact List.mem_append_left _ hx)
  have hb2: ∀x∈O2,0<=x/\x<256:=fun x hx=>HOB.out x (by rw [<- hOO];exact List.mem_append_right _ hx)
  have RT1:SN.Ac T1:=hT1▸SN.Ef RF.out _
  have hT2:SN.CR T1 (PA.feed P1 O2).2=T:=by
   have e:=HTT.out
   rw [<- hOO,PA.IX] at e
   simp only [] at e
   rw [SN.Nt,hT1,hP1] at e
   exact e
  have hok1:P1.ok:=hP1▸PA.Un PA.Nk O1 hb1
  have mR:P1.d.parts<=1000000:=by
   have h:=PA.MI PA.s0 O1
   have hl:O1.length<=O.length:=by rw [<- hOO,List.length_append];omega
   have hol:=HOL.out
   rw [hP1] at h
   have e0:PA.s0.d.parts=0:=rfl
   omega
  have hkc:k<=co:=by omega
  have osz:=LO6.out.size
  have hoL: ∀b,(Value.slice Ao m co).ownBlock=some b->b<G8.heap.size:=fun b hb=>(HO6.out.lt b hb).2
  have OWN:=hide (fun w' (hk:Kept [some q2] G8 w')=>BH HO6.out hk (fun b hb hm=>by simp only [List.mem_singleton] at hm;exact Aa HO6.out HQ6.out.box (by decide) (hb.trans hm)))
  have LOW:=hide (fun w' (hk:Kept [some q2] G8 w')=>LO6.out.trans (hk.toBelow osz (fun k hh=>by simp at hh;have:=HQ6.out.low;omega)))
  have oM: ∀ad,Ao=some ad->some ad.block∉ [some q2,(Value.slice none 0 0).ownBlock,(Value.slice none 0 0).ownBlock] :=fun ad e=>by
   subst e
   have h1:=Aa HO6.out HQ6.out.box (by decide)
   simp [Value.ownBlock] at h1⊢
   exact h1
  have FDA:=hide (fun (w':World) (v':Value) (hb:Below G8.heap.size G8 w') (hi:IsS w' F v')=>(show Calls Tryz.prog 26 #[v',.pointer (some ⟨q2,0,none⟩),J5 Ao 0 k co] w' (fun e w2=> ∃v2 vp vt,e=.returned v2/\C8 T1 v2 w2/\PB w2 w.heap.size q2 P1 vp vt/\Kept [some q2] w' w2/\From w' [] vp.ownBlock/\From w' [] vt.ownBlock) from by
   have hs:=OP (Seen.Bu (OWN.out w' (Kept.of_below hb))) (d:=0) (e:=k) (m:=k-0) (Nat.zero_le _) hkm hco rfl
   rw [List.drop_zero,hO1] at hs
   refine(FD.out q2 PA.s0 (.slice none 0 0) (.slice none 0 0) F v' _ (k-0) (co-0) O1 w' (LOW.out w' (Kept.of_below hb)) RF.out (HQ6.out.below hb) PA.Nk (by decide) hs hb1 (by omega) (Q9 oM) hi).mono ?_
   rintro e w2 ⟨v2,vp,vt,rfl,h1,h2,h3,h4,h5⟩
   rw [hT1] at h1
   rw [hP1] at h2
   have nn: ∀(x:World) o,From x [(Value.slice none 0 0).ownBlock] o->From x [] o:=fun x o h q hq=>by
    rcases h q hq with h | h
    ·simp [Value.ownBlock] at h
    ·exact .inr h
   exact⟨v2,vp,vt,rfl,D7 h1,h2,(Kept.refl [some q2] w').trans h3 (fun x hx=>by
    simp [Value.ownBlock] at hx
    rcases hx with rfl | rfl
    ·exact From.mem (by simp)
    ·exact From.none _ _),nn _ _ h4,nn _ _ h5⟩))
  have FDB:=hide (fun (w':World) (v' vp vt:Value) (hk:Kept [some q2] G8 w') (hp:PB w' w.heap.size q2 P1 vp vt) (f1:From G8 [] vp.ownBlock) (f2:From G8 [] vt.ownBlock) (hi:IsS w' T1 v')=>(show Calls Tryz.prog 26 #[v',.pointer (some ⟨q2,0,none⟩),J5 Ao k m co] w' (fun e w2=> ∃v2,e=.returned v2/\C8 T v2 w2/\Kept [some q2,vp.ownBlock,vt.ownBlock] w' w2) from by
   have hs:=OP (Seen.Bu (OWN.out w' hk)) (d:=k) (e:=m) (m:=m-k) hkm (Nat.le_refl _) hco rfl
   rw [List.take_of_length_le (by have:=HOL.out;omega),hO2] at hs
   refine(FD.out q2 P1 vp vt T1 v' _ (m-k) (co-k) O2 w' (LOW.out w' hk) RT1 hp hok1 mR hs hb2 (by omega) (Q9 (fun ad e=>?_)) hi).mono ?_
   ·have hbl:=hoL ad.block (by rw [e];rfl)
    simp only [List.mem_cons,List.not_mem_nil,or_false,not_or]
    refine⟨fun e1=>?_,fun e1=>?_,fun e1=>?_⟩
    ·exact oM ad e (by rw [e1];simp)
    ·rcases f1 _ e1.symm with h | h
     ·simp at h
     ·omega
    ·rcases f2 _ e1.symm with h | h
     ·simp at h
     ·omega
   ·rintro e w2 ⟨v2,vp2,vt2,rfl,h1,h2,h3,h4,h5⟩
    rw [hT2] at h1
    exact⟨v2,rfl,D7 h1,h3⟩))
  have HQB:=hide HQ6.out.box
  clear FD oM hoL hb1 hb2 hT1 hT2 hP1 hok1 mR RT1 hO1 hO2 hOO
  refine Fa (n:=79) (n0:=14) (BJ w.heap.size q2 F T1 T P1 G8 (fun j=> [(.int .i64 (R:Nat)),(.int .i64 (K:Nat)),undef,(.pointer (some ⟨q2,0,none⟩)),(.slice Ao m co),(.int .i64 (k:Nat)),(J5 Ao 0 k co),undef,(.pointer (some ⟨q2,0,none⟩)),(.slice Ao m co),(.int .i64 (k:Nat)),(J5 Ao k m co)].getD j undef)) (by kernel_rfl) (by kernel_rfl) (by kernel_rfl) rfl (by kernel_rfl) (fun L u u' w' h hj=>hj.same h) (OZ ⟨?_,?_,?_,?_,?_,?_,?_,?_,?_,?_,?_,?_,?_,?_⟩) ?_ ⟨fun j _ h=>(by cases h),fun _=>⟨rfl,(Below.refl _ _).drew,fun h=>(by cases h)⟩,fun h=>(by cases h),fun h=>(by cases h),fun h=>(by cases h)⟩
  ·intro L a w' hL hsame hsz hJ AJ hcl
   have e0:a.eval (.tmp 9)=(.int .i64 (R:Nat)):=AY hsame (by kernel_rfl)
   refine Step.val _ rfl rfl (AV rfl) (.int .i64 (R:Nat)) w' (fun ρ hρ=>?_) (hJ.val 0 rfl)
   rw [hρ] at e0
   clear hJ hsame AJ hcl hρ hsz
   go_simp
  ·intro L a w' hL hsame hsz hJ AJ hcl
   have e0:a.eval (.tmp 10)=(.int .i64 (K:Nat)):=AY hsame (by kernel_rfl)
   refine Step.val _ rfl rfl (AV rfl) (.int .i64 (K:Nat)) w' (fun ρ hρ=>?_) (hJ.val 1 rfl)
   rw [hρ] at e0
   clear hJ hsame AJ hcl hρ hsz
   go_simp
  ·intro L a w' hL hsame hsz hJ AJ hcl
   have h7:=VU hcl hL (i:=2) (j:=7) (by kernel_rfl)
   have e0:a.eval (.tmp 46)=(.int .i64 (R:Nat)):=AU (j:=0) (by kernel_rfl) (hJ.1 0 rfl (AZ AJ 0 (by kernel_rfl)))
   have e1:a.eval (.tmp 47)=(.int .i64 (K:Nat)):=AU (j:=1) (by kernel_rfl) (hJ.1 1 rfl (AZ AJ 1 (by kernel_rfl)))
   refine Step.call _ rfl rfl (AV rfl) 21 #[.int .i64 (R:Nat),.int .i64 (K:Nat)] (fun ρ hρ=>?_) ?_
   ·rw [hρ] at e0 e1
    have ef:ρ (.func 21)=.func (.func 21) #[] #[] :=(hρ _).symm
    clear hJ hsame AJ hcl hρ hsz
    go_simp
   ·refine(NW.out w').mono ?_
    rintro e w2 ⟨v2,rfl,hi2,hb2⟩
    exact⟨_,rfl,hJ.new h7 hb2 (D7 hi2)⟩
  ·intro L a w' hL hsame hsz hJ AJ hcl
   have e0:a.eval (.tmp 14)=(.pointer (some ⟨q2,0,none⟩)):=AY hsame (by kernel_rfl)
   refine Step.val _ rfl rfl (AV rfl) (.pointer (some ⟨q2,0,none⟩)) w' (fun ρ hρ=>?_) (hJ.val 3 rfl)
   rw [hρ] at e0
   clear hJ hsame AJ hcl hρ hsz
   go_simp
  ·intro L a w' hL hsame hsz hJ AJ hcl
   have e0:a.eval (.tmp 11)=(.slice Ao m co):=AY hsame (by kernel_rfl)
   refine Step.val _ rfl rfl (AV rfl) (.slice Ao m co) w' (fun ρ hρ=>?_) (hJ.val 4 rfl)
   rw [hρ] at e0
   clear hJ hsame AJ hcl hρ hsz
   go_simp
  ·intro L a w' hL hsame hsz hJ AJ hcl
   have e0:a.eval (.tmp 12)=(.int .i64 (k:Nat)):=AY hsame (by kernel_rfl)
   refine Step.val _ rfl rfl (AV rfl) (.int .i64 (k:Nat)) w' (fun ρ hρ=>?_) (hJ.val 5 rfl)
   rw [hρ] at e0
   clear hJ hsame AJ hcl hρ hsz
   go_simp
  ·intro L a w' hL hsame hsz hJ AJ hcl
   have e0:a.eval (.tmp 50)=(.slice Ao m co):=AU (j:=4) (by kernel_rfl) (hJ.1 4 rfl (AZ AJ 4 (by kernel_rfl)))
   have e1:a.eval (.tmp 51)=(.int .i64 (k:Nat)):=AU (j:=5) (by kernel_rfl) (hJ.1 5 rfl (AZ AJ 5 (by kernel_rfl)))
   refine Step.val _ rfl rfl (AV rfl) (J5 Ao 0 k co) w' (fun ρ hρ=>?_) (hJ.val 6 rfl)
   rw [hρ] at e0 e1
   exact Xr _ _ Ao m co k _ _ e0 e1 hkc _ _ _ _ _
  ·intro L a w' hL hsame hsz hJ AJ hcl
   obtain⟨_,hb,hv0⟩:=hJ.2.1 hL
   obtain⟨Ax,cx,hv2,hg2⟩:=hv0 (AZ AJ 2 (by kernel_rfl))
   have e0:a.eval (.tmp 48)=(.agg (scA (.slice Ax (F.g.rows*F.g.AB) cx) F)):=AU (j:=2) (by kernel_rfl) (hv2)
   have e1:a.eval (.tmp 49)=(.pointer (some ⟨q2,0,none⟩)):=AU (j:=3) (by kernel_rfl) (hJ.1 3 rfl (AZ AJ 3 (by kernel_rfl)))
   have e2:a.eval (.tmp 52)=(J5 Ao 0 k co):=AU (j:=6) (by kernel_rfl) (hJ.1 6 rfl (AZ AJ 6 (by kernel_rfl)))
   refine Step.call _ rfl rfl (AV rfl) 26 #[.agg (scA (.slice Ax (F.g.rows*F.g.AB) cx) F),.pointer (some ⟨q2,0,none⟩),J5 Ao 0 k co] (fun ρ hρ=>?_) ?_
   ·rw [hρ] at e0 e1 e2
    have ef:ρ (.func 26)=.func (.func 26) #[] #[] :=(hρ _).symm
    clear hJ hsame AJ hcl hρ hsz hb hv0 hv2 hg2
    go_simp
   ·refine(FDA.out w' _ hb ⟨_,rfl,hg2⟩).mono ?_
    rintro e w2 ⟨v2,vp,vt,rfl,h1,h2,h3,h4,h5⟩
    exact⟨_,rfl,hJ.fed1 hL h3 ⟨_,HQB.out.below hb HQB.out.lt⟩ h1 h2 h4 h5⟩
  ·intro L a w' hL hsame hsz hJ AJ hcl
   have e0:a.eval (.tmp 14)=(.pointer (some ⟨q2,0,none⟩)):=AY hsame (by kernel_rfl)
   refine Step.val _ rfl rfl (AV rfl) (.pointer (some ⟨q2,0,none⟩)) w' (fun ρ hρ=>?_) (hJ.val 8 rfl)
   rw [hρ] at e0
   clear hJ hsame AJ hcl hρ hsz
   go_simp
  ·intro L a w' hL hsame hsz hJ AJ hcl
   have e0:a.eval (.tmp 11)=(.slice Ao m co):=AY hsame (by kernel_rfl)
   refine Step.val _ rfl rfl (AV rfl) (.slice Ao m co) w' (fun ρ hρ=>?_) (hJ.val 9 rfl)
   rw [hρ] at e0
   clear hJ hsame AJ hcl hρ hsz
   go_simp
  ·intro L a w' hL hsame hsz hJ AJ hcl
   have e0:a.eval (.tmp 12)=(.int .i64 (k:Nat)):=AY hsame (by kernel_rfl)
   refine Step.val _ rfl rfl (AV rfl) (.int .i64 (k:Nat)) w' (fun ρ hρ=>?_) (hJ.val 10 rfl)
   rw [hρ] at e0
   clear hJ hsame AJ hcl hρ hsz
   go_simp
  ·intro L a w' hL hsame hsz hJ AJ hcl
   have e0:a.eval (.tmp 55)=(.slice Ao m co):=AU (j:=9) (by kernel_rfl) (hJ.1 9 rfl (AZ AJ 9 (by kernel_rfl)))
   have e1:a.eval (.tmp 56)=(.int .i64 (k:Nat)):=AU (j:=10) (by kernel_rfl) (hJ.1 10 rfl (AZ AJ 10 (by kernel_rfl)))
   refine Step.val _ rfl rfl (AV rfl) (J5 Ao k m co) w' (fun ρ hρ=>?_) (hJ.val 11 rfl)
   rw [hρ] at e0 e1
   exact Xt _ _ Ao m co k _ _ e0 e1 hkm _ _ _ _ _
  ·intro L a w' hL hsame hsz hJ AJ hcl
   have h7:=AZ AJ 7 (by kernel_rfl)
   obtain⟨⟨Ax,cx,hv2,hg2⟩,vp,vt,hp,hk0,f1,f2⟩:=hJ.2.2.1 h7 hL
   have e0:a.eval (.tmp 53)=(.agg (scA (.slice Ax (T1.g.rows*T1.g.AB) cx) T1)):=AU (j:=7) (by kernel_rfl) (hv2)
   have e1:a.eval (.tmp 54)=(.pointer (some ⟨q2,0,none⟩)):=AU (j:=8) (by kernel_rfl) (hJ.1 8 rfl (AZ AJ 8 (by kernel_rfl)))
   have e2:a.eval (.tmp 57)=(J5 Ao k m co):=AU (j:=11) (by kernel_rfl) (hJ.1 11 rfl (AZ AJ 11 (by kernel_rfl)))
   refine Step.call _ rfl rfl (AV rfl) 26 #[.agg (scA (.slice Ax (T1.g.rows*T1.g.AB) cx) T1),.pointer (some ⟨q2,0,none⟩),J5 Ao k m co] (fun ρ hρ=>?_) ?_
   ·rw [hρ] at e0 e1 e2
    have ef:ρ (.func 26)=.func (.func 26) #[] #[] :=(hρ _).symm
    clear hJ hsame AJ hcl hρ hsz hp hk0 f1 f2 hv2 hg2
    go_simp
   ·refine(FDB.out w' _ vp vt hk0 hp f1 f2 ⟨_,rfl,hg2⟩).mono ?_
    rintro e w2 ⟨v2,rfl,h1,h3⟩
    exact⟨_,rfl,hJ.fed2 h7 hL h1 hp hk0 f1 f2 h3⟩
  ·intro L a w' hL hsame hsz hJ AJ hcl
   refine Step.val _ rfl rfl (AV rfl) (.pointer (some ⟨w'.heap.size,0,none⟩)) (w'.alloc (.cells #[.int .i64 0,.int .i64 0,.slice none 0 0,.int .i64 0,.int .i64 0,.bool false,.int .i64 0,.int .i64 0,.int .i64 0,.int .i64 0,.int .i64 0,.int .u64 0,.int .u8 0,.int .u8 0,.int .i64 0,.bool false,.bool false,.bool false,.bool false,.bool false,.int .i64 0,.int .i64 0,.int .i64 0,.int .i64 0,.int .i64 0,.int .u8 0,.int .u8 0,.int .i64 0,.bool false] 43)) (fun ρ hρ=>?_) (hJ.box #[.int .i64 0,.int .i64 0,.slice none 0 0,.int .i64 0,.int .i64 0,.bool false,.int .i64 0,.int .i64 0,.int .i64 0,.int .i64 0,.int .i64 0,.int .u64 0,.int .u8 0,.int .u8 0,.int .i64 0,.bool false,.bool false,.bool false,.bool false,.bool false,.int .i64 0,.int .i64 0,.int .i64 0,.int .i64 0,.int .i64 0,.int .u8 0,.int .u8 0,.int .i64 0,.bool false] rfl)
   clear hJ hsame AJ hcl hρ hsz
   go_simp
  ·intro L a w' hsame hsz hJ hall
   obtain⟨hSV,hkk⟩:=hJ.2.2.2.1 (hall 12 (by decide))
   have hBX:=hJ.2.2.2.2 (hall 13 (by decide))
   obtain⟨u,hu,ha⟩:=EY hsame
   rw [ha]
   obtain⟨A8,c8,f4,hi8⟩:=(show C8 T (u 12) w' by rw [hu 12];exact hSV)
   obtain⟨gt,ct,f13,hgt,hbt,hct⟩:=(show∃g cs,u 13=.pointer (some ⟨g,0,none⟩)/\G8.heap.size<=g/\Box w' g 43 cs/\cs.size=29 by rw [hu 13];exact hBX)
   clear hSV hBX hJ hsame hu ha hall
   change wpList _ _ _ _ (Act.put (Act.put (Act.put (Act.put (Act.put (Act.put (Act.put (Act.put (Act.put (Act.put (Act.put (Act.put (Act.put (Act.put (Act.put (Az _ u 0 _) (some 46) (u 0)) (some 47) (u 1)) (some 48) (u 2)) (some 49) (u 3)) (some 50) (u 4)) (some 51) (u 5)) (some 52) (u 6)) (some 53) (u 7)) (some 54) (u 8)) (some 55) (u 9)) (some 56) (u 10)) (some 57) (u 11)) (some 58) (u 12)) (some 16) (u 13)) none (u 14)) w'
   simp only [Az]
   generalize u 0=z0
   generalize u 1=z1
   generalize u 2=z2
   generalize u 3=z3
   generalize u 4=z4
   generalize u 5=z5
   generalize u 6=z6
   generalize u 7=z7
   generalize u 8=z8
   generalize u 9=z9
   generalize u 10=z10
   generalize u 11=z11
   generalize u 12=z12 at f4⊢
   generalize u 13=z13 at f13⊢
   generalize u 14=z14
   subst f4 f13
   simp only [List.drop_succ_cons,List.drop_zero]
   refine AQ (x:=.slice A8 (T.g.rows*T.g.AB) c8) (s:=T) hbt hct rfl _ _ rfl (by((repeat(first | rw [ET] | rw [ER (by decide)]));rw [Hr (by(repeat rw [Cm]);exact Nat.lt_of_lt_of_le (m:=79) (by decide) (Nat.le_refl 79))])) (by((repeat(first | rw [ET] | rw [ER (by decide)]));rw [Hr (by(repeat rw [Cm]);exact Nat.lt_of_lt_of_le (m:=79) (by decide) (Nat.le_refl 79))])) rfl ?_
   intro w9 hB9 hk9 hq9
   have sF:gs≠gt:=by have:=HS6.out.lt;omega
   have hk6:Kept [some q2] G8 w':=hkk
   have HS9:=hide ((HS6.out.kept hk6 (by simp;exact bB HS6.out HQB.out (by decide))).kept hk9 (by simp;exact sF))
   have HG9:=hide ((HG6.out.kept HQB.out (by decide) hk6).kept hbt (by decide) hk9)
   have HI9:=hide (hi8.kept hbt (by decide) hk9)
   have HO9:=hide (BH (OWN.out w' hk6) hk9 (fun b hb hm=>by simp only [List.mem_singleton] at hm;exact Aa (OWN.out w' hk6) hbt (by decide) (hb.trans hm)))
   have LO9:=hide ((LOW.out w' hk6).trans (hk9.toBelow (LOW.out w' hk6).size (fun k hh=>by simp at hh;omega)))
   have HT9:=hide hB9
   clear hB9 hk9 hq9 hk6 hkk hbt hi8 HS6 HG6 HO6 LO6 HQ6 HQB OWN LOW FDA FDB
   change Exit.then _ _ Exit.normal _ _
   go_simp
   go_step
   go_upto_region 9 with fail
   obtain⟨evs,hev⟩: ∃evs,(PA.feed PA.s0 O).2=evs:=⟨_,rfl⟩
   have hel:evs.length<=1000000:=by
    have h:=PA.MJ PA.s0 O
    have hol:=HOL.out
    rw [hev] at h
    omega
   have hfit: ∀e∈evs,PA.Fits e:=hev▸PA.Ns PA.Nk O HOB.out
   have hTe:SN.CR F evs=T:=hev▸HTT.out
   have PAR:=hide (fun (w':World) (hb:Below w9.heap.size w9 w')=>hev▸Xq Ao m co O w' HOL.out (Seen.Bu (BH HO9.out (Kept.of_below (L:= []) hb) (by simp))) HOB.out (by omega) hco)
   have ALL:=hide (fun (w':World) (v':Value) (A:Option Addr) (c:Nat) (M:List (PA.Ev × Value)) (hb:Below w9.heap.size w9 w') (hc:M.length<=c) (hm:M.map (·.1)=evs) (hE:Ga w' A M.length M) (hC: ∀p∈M,Jy p.2) (h:IsS w' F v')=>(show Calls Tryz.prog 24 #[v',.slice A M.length c] w' (BD w' T) from by
    have hr:=U1 F v' A M.length c M w' RF.out hE (by have e:=congrArg List.length hm;rw [List.length_map] at e;omega) hc (fun p hp=>hfit p.1 (by rw [<- hm];exact List.mem_map_of_mem hp)) hC (HT.out.keep (LO9.out.trans (hb.mono LO9.out.size))) h
    rw [hm,hTe] at hr
    exact hr))
   have SCR:=hide (fun (w':World) A A' c c' h h'=>Tg T A A' c c' w' (Nat.le_trans (Nat.mul_le_mul RT.out.g.2.1 RT.out.g.2.2.2.1) (by omega)) h h')
   have SAM:=hide (fun (w':World) A A' c c' h h'=>bL T A A' c c' RT.out w' h h')
   have RGT:=hide (fun (w':World) x (hw:Below w9.heap.size w9 w') h=>Xi T x RT.out w' h ((HT.out.keep (LO9.out.trans (hw.mono LO9.out.size))).spans))
   have RNS:=hide (fun (w':World) (hw:Below w9.heap.size w9 w')=>O7 w' (HT.out.keep (LO9.out.trans (hw.mono LO9.out.size))) (HTB.out.keep (LO9.out.trans (hw.mono LO9.out.size))))
   clear hev hel hfit hTe
   refine EI (n:=79) [] (fun _=> #[]) [(0,0,0,0,0),(0,0,0,0,0),(0,0,0,0,0),(0,0,0,0,0),(0,0,0,0,0),(0,0,0,0,0),(0,0,0,0,0),(1,0,0,0,0),(0,0,0,0,0),(1,0,0,0,0),(1,0,0,0,0),(0,0,0,0,0),(0,0,0,0,0),(0,0,0,0,0),(0,0,0,0,0),(0,0,0,0,0),(0,0,0,0,0),(0,0,0,0,0),(0,0,0,0,0),(0,0,0,0,0),(0,0,0,0,0)] (fun j=> [(.agg (scA (.slice A5 (T.g.rows*T.g.AB) c5) T)),(.agg (scA (.slice A8 (T.g.rows*T.g.AB) c8) T)),(.bool true),(.bool true),(.agg (scA (.slice A5 (T.g.rows*T.g.AB) c5) T)),(.int .i64 (R:Nat)),(.int .i64 (K:Nat)),undef,(.slice Ao m co),undef,undef,(.bool true),(.bool true),(.bool true),(.agg (scA (.slice A5 (T.g.rows*T.g.AB) c5) T)),(.bool true),(.bool true),(.bool true),(.bool true),(.bool true),(.bool true)].getD j undef) [none,none,none,none,none,none,none,some (C8 F),none,some (EvM evs),some (C8 T)] (fun _=>0) (by kernel_rfl) (by kernel_rfl) (by kernel_rfl) rfl (by kernel_rfl) (Dt rfl) (fun i j h=>by revert h;exact Dt (p:=fun _=>_) rfl i) (Aj.none_ (Aj.none_ (Aj.none_ (Aj.none_ (Aj.none_ (Aj.none_ (Aj.none_ (Aj.some_ (C8.stays (by kernel_rfl)) (Aj.none_ (Aj.some_ (EvM.stays) (Aj.some_ (C8.stays (by kernel_rfl)) (Aj.nil _)))))))))))) (fun hGS=>UY ⟨?_,?_,?_,?_,?_,?_,?_,?_,?_,?_,?_,?_,?_,?_,?_,?_,?_,?_,?_,?_,?_⟩) ?_
   ·intro L a w' hL hsame hsz hJ AJ hcl
    have hb:=hJ.kept.toBelow (Nat.le_refl _) (by simp)
    have e0:a.eval (.tmp 15)=(.pointer (some ⟨gs,0,none⟩)):=AY hsame (by kernel_rfl)
    have hx:=hJ.Ah ((show Box _ _ 43 (scA (.slice A5 (T.g.rows*T.g.AB) c5) T) from HS9.out)) (by simp)
    exact Step.val _ rfl rfl (AV rfl) (.agg (scA (.slice A5 (T.g.rows*T.g.AB) c5) T)) w' (fun ρ hρ=>Aq hx rfl ρ _ rfl ((hρ _).symm.trans e0)) (hJ.val hGS hcl hL rfl (Below.refl _ _) _ rfl)
   ·intro L a w' hL hsame hsz hJ AJ hcl
    have hb:=hJ.kept.toBelow (Nat.le_refl _) (by simp)
    have e0:a.eval (.tmp 16)=(.pointer (some ⟨gt,0,none⟩)):=AY hsame (by kernel_rfl)
    have hx:=hJ.Ah ((show Box _ _ 43 (scA (.slice A8 (T.g.rows*T.g.AB) c8) T) from HT9.out)) (by simp)
    exact Step.val _ rfl rfl (AV rfl) (.agg (scA (.slice A8 (T.g.rows*T.g.AB) c8) T)) w' (fun ρ hρ=>Aq hx rfl ρ _ rfl ((hρ _).symm.trans e0)) (hJ.val hGS hcl hL rfl (Below.refl _ _) _ rfl)
   ·intro L a w' hL hsame hsz hJ AJ hcl
    have hb:=hJ.kept.toBelow (Nat.le_refl _) (by simp)
    have e0:a.eval (.tmp 59)=(.agg (scA (.slice A5 (T.g.rows*T.g.AB) c5) T)):=AU (j:=0) (by kernel_rfl) (hJ.valOf (by decide) (AZ AJ 0 (by kernel_rfl)) rfl rfl)
    have e1:a.eval (.tmp 60)=(.agg (scA (.slice A8 (T.g.rows*T.g.AB) c8) T)):=AU (j:=1) (by kernel_rfl) (hJ.valOf (by decide) (AZ AJ 1 (by kernel_rfl)) rfl rfl)
    refine Step.call _ rfl rfl (AV rfl) 23 #[.agg (scA (.slice A5 (T.g.rows*T.g.AB) c5) T),.agg (scA (.slice A8 (T.g.rows*T.g.AB) c8) T)] (fun ρ hρ=>?_) ?_
    ·skip
     rw [hρ] at e0 e1
     have ef:ρ (.func 23)=.func (.func 23) #[] #[] :=(hρ _).symm
     clear hJ hsame AJ hcl hρ hsz hb
     go_simp
    ·refine(SAM.out _ _ _ _ _ (HG9.out.low hb) (HI9.out.low hb)).mono ?_
     rintro e w2 ⟨rfl,bb⟩
     exact⟨_,rfl,hJ.val hGS hcl hL rfl bb _ rfl⟩
   ·intro L a w' hL hsame hsz hJ AJ hcl
    refine BG hJ hGS hcl hL 61 (.bool true) (.bool true) (gslot hJ AJ 2 (by kernel_rfl) (by kernel_rfl) (by decide) rfl rfl) _ rfl rfl rfl rfl rfl fun ρ _ e0=>?_
    clear hJ hsame AJ hcl hsz
    go_simp
   ·intro L a w' hL hsame hsz hJ AJ hcl
    have gd:valOf _ 3 a=.bool true:=hJ.valOf (by decide) (AZ AJ 3 (by kernel_rfl)) rfl rfl
    have hb:=hJ.kept.toBelow (Nat.le_refl _) (by simp)
    have e0:a.eval (.tmp 15)=(.pointer (some ⟨gs,0,none⟩)):=AY hsame (by kernel_rfl)
    have hx:=hJ.Ah ((show Box _ _ 43 (scA (.slice A5 (T.g.rows*T.g.AB) c5) T) from HS9.out)) (by simp)
    exact Step.val _ rfl rfl (BK (g:=3) (b:=true) rfl gd) (.agg (scA (.slice A5 (T.g.rows*T.g.AB) c5) T)) w' (fun ρ hρ=>Aq hx rfl ρ _ rfl ((hρ _).symm.trans e0)) (hJ.val hGS hcl hL rfl (Below.refl _ _) _ rfl)
   ·intro L a w' hL hsame hsz hJ AJ hcl
    refine DX hJ hGS hcl hL AJ 9 9 (.int .i64 (R:Nat)) _ (.int .i64 (R:Nat)) (AY hsame (by kernel_rfl)) (AY hsame (by kernel_rfl)) _ rfl rfl _ rfl rfl rfl (by kernel_rfl) rfl rfl fun ρ e0 _=>?_
    clear hJ hsame AJ hcl hsz
    go_simp
   ·intro L a w' hL hsame hsz hJ AJ hcl
    refine DX hJ hGS hcl hL AJ 10 10 (.int .i64 (K:Nat)) _ (.int .i64 (K:Nat)) (AY hsame (by kernel_rfl)) (AY hsame (by kernel_rfl)) _ rfl rfl _ rfl rfl rfl (by kernel_rfl) rfl rfl fun ρ e0 _=>?_
    clear hJ hsame AJ hcl hsz
    go_simp
   ·intro L a w' hL hsame hsz hJ AJ hcl
    have gd:valOf _ 3 a=.bool true:=hJ.valOf (by decide) (AZ AJ 3 (by kernel_rfl)) rfl rfl
    have hb:=hJ.kept.toBelow (Nat.le_refl _) (by simp)
    have e0:a.eval (.tmp 64)=(.int .i64 (R:Nat)):=AU (j:=5) (by kernel_rfl) (hJ.valOf (by decide) (AZ AJ 5 (by kernel_rfl)) rfl rfl)
    have e1:a.eval (.tmp 65)=(.int .i64 (K:Nat)):=AU (j:=6) (by kernel_rfl) (hJ.valOf (by decide) (AZ AJ 6 (by kernel_rfl)) rfl rfl)
    refine Step.call _ rfl rfl (BK (g:=3) (b:=true) rfl gd) 21 #[.int .i64 (R:Nat),.int .i64 (K:Nat)] (fun ρ hρ=>?_) ?_
    ·skip
     rw [hρ] at e0 e1
     have ef:ρ (.func 21)=.func (.func 21) #[] #[] :=(hρ _).symm
     clear hJ hsame AJ hcl hρ hsz hb gd
     go_simp
    ·refine(NW.out _).mono ?_
     rintro e w2 ⟨v,rfl,hi,bb⟩
     exact⟨_,rfl,hJ.pred hGS hcl hL rfl bb _ (D7 hi)⟩
   ·intro L a w' hL hsame hsz hJ AJ hcl
    refine DX hJ hGS hcl hL AJ 11 11 (.slice Ao m co) _ (.slice Ao m co) (AY hsame (by kernel_rfl)) (AY hsame (by kernel_rfl)) _ rfl rfl _ rfl rfl rfl (by kernel_rfl) rfl rfl fun ρ e0 _=>?_
    clear hJ hsame AJ hcl hsz
    go_simp
   ·intro L a w' hL hsame hsz hJ AJ hcl
    have gd:valOf _ 3 a=.bool true:=hJ.valOf (by decide) (AZ AJ 3 (by kernel_rfl)) rfl rfl
    have hb:=hJ.kept.toBelow (Nat.le_refl _) (by simp)
    have e0:a.eval (.tmp 67)=(.slice Ao m co):=AU (j:=8) (by kernel_rfl) (hJ.valOf (by decide) (AZ AJ 8 (by kernel_rfl)) rfl rfl)
    refine Step.call _ rfl rfl (BK (g:=3) (b:=true) rfl gd) 27 #[.slice Ao m co] (fun ρ hρ=>?_) ?_
    ·skip
     rw [hρ] at e0
     have ef:ρ (.func 27)=.func (.func 27) #[] #[] :=(hρ _).symm
     clear hJ hsame AJ hcl hρ hsz hb gd
     go_simp
    ·refine(PAR.out _ hb).mono ?_
     rintro e w2 ⟨Ax,cx,Mx,rfl,hx1,hx2,hx3,hx4,bb⟩
     exact⟨_,rfl,hJ.pred hGS hcl hL rfl bb _ ⟨Ax,cx,Mx,rfl,hx1,hx2,bM hx3 (fun p hp=>(hx4 p hp).ok),fun p hp=>(hx4 p hp).cap⟩⟩
   ·intro L a w' hL hsame hsz hJ AJ hcl
    have gd:valOf _ 3 a=.bool true:=hJ.valOf (by decide) (AZ AJ 3 (by kernel_rfl)) rfl rfl
    have hb:=hJ.kept.toBelow (Nat.le_refl _) (by simp)
    obtain⟨A7',c7',hv7,hi7⟩:=(show(C8 F) (valOf _ 7 a) w' from hJ.Cy (by decide) (AZ AJ 7 (by kernel_rfl)) rfl)
    have e0:a.eval (.tmp 66)=.agg (scA (.slice A7' (F.g.rows*F.g.AB) c7') F):=AU (j:=7) (by kernel_rfl) hv7
    obtain⟨A9',c9',M9,hv9,hc9',hm9,hs9,hp9⟩:=(show(EvM evs) (valOf _ 9 a) w' from hJ.Cy (by decide) (AZ AJ 9 (by kernel_rfl)) rfl)
    have e1:a.eval (.tmp 68)=.slice A9' M9.length c9':=AU (j:=9) (by kernel_rfl) hv9
    refine Step.call _ rfl rfl (BK (g:=3) (b:=true) rfl gd) 24 #[.agg (scA (.slice A7' (F.g.rows*F.g.AB) c7') F),.slice A9' M9.length c9'] (fun ρ hρ=>?_) ?_
    ·skip
     rw [hρ] at e0 e1
     have ef:ρ (.func 24)=.func (.func 24) #[] #[] :=(hρ _).symm
     clear hJ hsame AJ hcl hρ hsz hb gd
     go_simp
    ·refine(ALL.out _ _ _ _ _ hb hc9' hm9 hs9 hp9 ⟨_,rfl,hi7⟩).mono ?_
     rintro e w2 ⟨v,rfl,hi,bb⟩
     exact⟨_,rfl,hJ.pred hGS hcl hL rfl bb _ (D7 hi)⟩
   ·intro L a w' hL hsame hsz hJ AJ hcl
    have gd:valOf _ 3 a=.bool true:=hJ.valOf (by decide) (AZ AJ 3 (by kernel_rfl)) rfl rfl
    have hb:=hJ.kept.toBelow (Nat.le_refl _) (by simp)
    have e0:a.eval (.tmp 63)=(.agg (scA (.slice A5 (T.g.rows*T.g.AB) c5) T)):=AU (j:=4) (by kernel_rfl) (hJ.valOf (by decide) (AZ AJ 4 (by kernel_rfl)) rfl rfl)
    obtain⟨Qx,Qy,hv10,hi10⟩:=(show(C8 T) (valOf _ 10 a) w' from hJ.Cy (by decide) (AZ AJ 10 (by kernel_rfl)) rfl)
    have e1:a.eval (.tmp 69)=.agg (scA (.slice Qx (T.g.rows*T.g.AB) Qy) T):=AU (j:=10) (by kernel_rfl) hv10
    refine Step.call _ rfl rfl (BK (g:=3) (b:=true) rfl gd) 16 #[.agg (scA (.slice A5 (T.g.rows*T.g.AB) c5) T),.agg (scA (.slice Qx (T.g.rows*T.g.AB) Qy) T)] (fun ρ hρ=>?_) ?_
    ·skip
     rw [hρ] at e0 e1
     have ef:ρ (.func 16)=.func (.func 16) #[] #[] :=(hρ _).symm
     clear hJ hsame AJ hcl hρ hsz hb gd
     go_simp
    ·refine(SCR.out _ _ _ _ _ (HG9.out.low hb) hi10).mono ?_
     rintro e w2 ⟨rfl,bb⟩
     exact⟨_,rfl,hJ.val hGS hcl hL rfl bb _ rfl⟩
   ·intro L a w' hL hsame hsz hJ AJ hcl
    refine JD hJ hGS hcl hL 62 70 (.bool true) (.bool true) (.bool true) (gslot hJ AJ 3 (by kernel_rfl) (by kernel_rfl) (by decide) rfl rfl) (gslot hJ AJ 11 (by kernel_rfl) (by kernel_rfl) (by decide) rfl rfl) _ rfl rfl rfl rfl rfl fun ρ hc e0 e1=>?_
    have ec0:=hc (.bool false)
    clear hJ hsame AJ hcl hsz
    go_simp
   ·intro L a w' hL hsame hsz hJ AJ hcl
    refine BG hJ hGS hcl hL 71 (.bool true) (.bool true) (gslot hJ AJ 12 (by kernel_rfl) (by kernel_rfl) (by decide) rfl rfl) _ rfl rfl rfl rfl rfl fun ρ _ e0=>?_
    clear hJ hsame AJ hcl hsz
    go_simp
   ·intro L a w' hL hsame hsz hJ AJ hcl
    have gd:valOf _ 13 a=.bool true:=hJ.valOf (by decide) (AZ AJ 13 (by kernel_rfl)) rfl rfl
    have hb:=hJ.kept.toBelow (Nat.le_refl _) (by simp)
    have e0:a.eval (.tmp 15)=(.pointer (some ⟨gs,0,none⟩)):=AY hsame (by kernel_rfl)
    have hx:=hJ.Ah ((show Box _ _ 43 (scA (.slice A5 (T.g.rows*T.g.AB) c5) T) from HS9.out)) (by simp)
    exact Step.val _ rfl rfl (BK (g:=13) (b:=true) rfl gd) (.agg (scA (.slice A5 (T.g.rows*T.g.AB) c5) T)) w' (fun ρ hρ=>Aq hx rfl ρ _ rfl ((hρ _).symm.trans e0)) (hJ.val hGS hcl hL rfl (Below.refl _ _) _ rfl)
   ·intro L a w' hL hsame hsz hJ AJ hcl
    have gd:valOf _ 13 a=.bool true:=hJ.valOf (by decide) (AZ AJ 13 (by kernel_rfl)) rfl rfl
    have hb:=hJ.kept.toBelow (Nat.le_refl _) (by simp)
    have e0:a.eval (.tmp 73)=(.agg (scA (.slice A5 (T.g.rows*T.g.AB) c5) T)):=AU (j:=14) (by kernel_rfl) (hJ.valOf (by decide) (AZ AJ 14 (by kernel_rfl)) rfl rfl)
    refine Step.call _ rfl rfl (BK (g:=13) (b:=true) rfl gd) 18 #[.agg (scA (.slice A5 (T.g.rows*T.g.AB) c5) T)] (fun ρ hρ=>?_) ?_
    ·skip
     rw [hρ] at e0
     have ef:ρ (.func 18)=.func (.func 18) #[] #[] :=(hρ _).symm
     clear hJ hsame AJ hcl hρ hsz hb gd
     go_simp
    ·refine(RGT.out _ _ hb (HG9.out.low hb)).mono ?_
     rintro e w2 ⟨rfl,bb⟩
     exact⟨_,rfl,hJ.val hGS hcl hL rfl bb _ rfl⟩
   ·intro L a w' hL hsame hsz hJ AJ hcl
    refine JD hJ hGS hcl hL 72 74 (.bool true) (.bool true) (.bool true) (gslot hJ AJ 13 (by kernel_rfl) (by kernel_rfl) (by decide) rfl rfl) (gslot hJ AJ 15 (by kernel_rfl) (by kernel_rfl) (by decide) rfl rfl) _ rfl rfl rfl rfl rfl fun ρ hc e0 e1=>?_
    have ec0:=hc (.bool false)
    clear hJ hsame AJ hcl hsz
    go_simp
   ·intro L a w' hL hsame hsz hJ AJ hcl
    refine BG hJ hGS hcl hL 75 (.bool true) (.bool true) (gslot hJ AJ 16 (by kernel_rfl) (by kernel_rfl) (by decide) rfl rfl) _ rfl rfl rfl rfl rfl fun ρ _ e0=>?_
    clear hJ hsame AJ hcl hsz
    go_simp
   ·intro L a w' hL hsame hsz hJ AJ hcl
    have gd:valOf _ 17 a=.bool true:=hJ.valOf (by decide) (AZ AJ 17 (by kernel_rfl)) rfl rfl
    have hb:=hJ.kept.toBelow (Nat.le_refl _) (by simp)
    refine Step.call _ rfl rfl (BK (g:=17) (b:=true) rfl gd) 19 #[] (fun ρ hρ=>?_) ?_
    ·skip
     have ef:ρ (.func 19)=.func (.func 19) #[] #[] :=(hρ _).symm
     clear hJ hsame AJ hcl hρ hsz hb gd
     go_simp
    ·refine(RNS.out _ hb).mono ?_
     rintro e w2 ⟨rfl,bb⟩
     exact⟨_,rfl,hJ.val hGS hcl hL rfl bb _ rfl⟩
   ·intro L a w' hL hsame hsz hJ AJ hcl
    refine JD hJ hGS hcl hL 76 77 (.bool true) (.bool true) (.bool true) (gslot hJ AJ 17 (by kernel_rfl) (by kernel_rfl) (by decide) rfl rfl) (gslot hJ AJ 18 (by kernel_rfl) (by kernel_rfl) (by decide) rfl rfl) _ rfl rfl rfl rfl rfl fun ρ hc e0 e1=>?_
    have ec0:=hc (.bool false)
    clear hJ hsame AJ hcl hsz
    go_simp
   ·intro L a w' hL hsame hsz hJ AJ hcl
    refine BG hJ hGS hcl hL 78 (.bool true) (.bool true) (gslot hJ AJ 19 (by kernel_rfl) (by kernel_rfl) (by decide) rfl rfl) _ rfl rfl rfl rfl rfl fun ρ _ e0=>?_
    clear hJ hsame AJ hcl hsz
    go_simp
   ·intro u w' hF
    change Exit.then _ _ Exit.normal (Act.put (Act.put (Act.put (Act.put (Act.put (Act.put (Act.put (Act.put (Act.put (Act.put (Act.put (Act.put (Act.put (Act.put (Act.put (Act.put (Act.put (Act.put (Act.put (Act.put (Act.put (Az _ u 0 _) (some 59) (u 0)) (some 60) (u 1)) (some 61) (u 2)) (some 62) (u 3)) (some 63) (u 4)) (some 64) (u 5)) (some 65) (u 6)) (some 66) (u 7)) (some 67) (u 8)) (some 68) (u 9)) (some 69) (u 10)) (some 70) (u 11)) (some 71) (u 12)) (some 72) (u 13)) (some 73) (u 14)) (some 74) (u 15)) (some 75) (u 16)) (some 76) (u 17)) (some 77) (u 18)) (some 78) (u 19)) (some 8) (u 20)) _
    simp only [Az]
    obtain f20:u 20=.bool true:=hF.Pz (j:=20) (by decide) rfl rfl
    have hk:=hF.kept.toBelow (Nat.le_refl _) (by simp)
    clear hF
    generalize u 0=y0
    generalize u 1=y1
    generalize u 2=y2
    generalize u 3=y3
    generalize u 4=y4
    generalize u 5=y5
    generalize u 6=y6
    generalize u 7=y7
    generalize u 8=y8
    generalize u 9=y9
    generalize u 10=y10
    generalize u 11=y11
    generalize u 12=y12
    generalize u 13=y13
    generalize u 14=y14
    generalize u 15=y15
    generalize u 16=y16
    generalize u 17=y17
    generalize u 18=y18
    generalize u 19=y19
    generalize u 20=y20 at f20⊢
    subst f20
    go_simp
    go_step
    go_wp2_with fail
    go_ret
    exact⟨rfl,LO9.out.trans (hk.mono LO9.out.size)⟩
end Go.Proofs.YtoaabebgmdbjeaaGreatDoor
namespace Go.Proofs.YtoaabebgmdbjeaaGreatDoor
open Go.RowKit
theorem K3 (rw_ cl:Int) (Ab:Option Addr) (nb cb:Nat) (lb:List Int) (cu:Int) (w:World)
  (hr:(Lit.int .i64 rw_).wf=true) (hc:(Lit.int .i64 cl).wf=true) (hA:Arg .u8 w Ab nb cb lb) (hcu:(Lit.int .i64 cu).wf=true) (h1:D6 w) (h2:GZ w) (h3:JZ w) (h4:Df w) (h5:F9 w):
  Calls Tryz.prog 5 #[.int .i64 rw_,.int .i64 cl,.slice Ab nb cb,.int .i64 cu] w fun e w'=>e=.returned (.bool true)/\Below w.heap.size w w':=
 NN rw_ cl cu Ab nb cb lb w (bounds_i64 hr) (bounds_i64 hc) (bounds_i64 hcu) hA ⟨h1,h2,h3,h4⟩ h5
end Go.Proofs.YtoaabebgmdbjeaaGreatDoor
