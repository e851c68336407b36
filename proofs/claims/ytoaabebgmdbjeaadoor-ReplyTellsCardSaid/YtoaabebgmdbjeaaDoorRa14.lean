/- A part of the proof: ArgScreen, SeqKeep, SeqTst, StrCut, KeepEvent. -/
import Derived.Test.YtoaabebgmdbjeaaDoorRa10
import Derived.Deep.CutBlock
set_option maxRecDepth 100000
set_option maxHeartbeats 16000000
set_option linter.unusedVariables false
namespace Go.Proofs.YtoaabebgmdbjeaaDoor
open Go.RowKit
def Qp (rw cl:Int) (Ap:Option Addr) (np cp:Nat) (At:Option Addr) (nt ct:Nat) (a b c d e p q r u:Int):Array Value:= #[.int .i64 rw,.int .i64 cl,.slice Ap np cp,.slice At nt ct,.int .i64 a,.int .i64 b,.int .i64 c,.int .i64 d,.int .i64 e,.int .i64 p,.int .i64 q,.int .i64 r,.int .u64 u]
theorem KU (rw cl:Int) (Ap:Option Addr) (np cp:Nat) (lp:List Int) (At:Option Addr) (nt ct:Nat) (lt:List Int) (a b c d e p q r u:Int) (w:World)
  (hr:(Lit.int .i64 rw).wf=true) (hc:(Lit.int .i64 cl).wf=true) (hp:Arg .i64 w Ap np cp lp) (ht:Arg .i64 w At nt ct lt) (ha:(Lit.int .i64 a).wf=true) (hb:(Lit.int .i64 b).wf=true) (hc':(Lit.int .i64 c).wf=true) (hd:(Lit.int .i64 d).wf=true) (he:(Lit.int .i64 e).wf=true)
  (hp0:(Lit.int .i64 p).wf=true) (hp1:(Lit.int .i64 q).wf=true) (hp2:(Lit.int .i64 r).wf=true) (hu:(Lit.int .u64 u).wf=true):
  ∃S:SN.Sc,SN.Jz S/\S.g.rows<=5/\S.g.AO<=9/\Hid (∀w',Below w.heap.size w w'->Calls Tryd.prog 9 #[.agg (Qp rw cl Ap np cp At nt ct a b c d e p q r u)] w' (Md w' S)):=by
 obtain⟨R,hR⟩: ∃R:Nat,1+rw%(5-1+1)=(R:Int):=⟨(1+rw%5).toNat,by omega⟩
 obtain⟨K,hK⟩: ∃K:Nat,1+cl%(9-1+1)=(K:Int):=⟨(1+cl%9).toNat,by omega⟩
 have hG:=JR lp lt (R:=R) (K:=K) (by omega) (by omega) (by omega) (by omega)
 obtain⟨n,rfl⟩: ∃n:Nat,u=(n:Int):=⟨u.toNat,by have:=bounds_u64 hu;omega⟩
 have hn:TB.Ok n:=by have:=bounds_u64 hu;unfold TB.Ok;omega
 refine⟨SN.JA (PG.ofL R K (PG.Bb lp lt R K)) ⟨a,b,c,d,e,p,q,r,n⟩,SN.J3 hG _ hn,?_,?_,hide fun w' hw=>?_⟩
 ·show R<=5
  omega
 ·show K<=9
  omega
 ·exact Gj _ _ _ _ ⟨a,b,c,d,e,p,q,r,n⟩ _ w' hG ⟨⟨bounds_i64 ha,bounds_i64 hb,bounds_i64 hc',bounds_i64 hd⟩,⟨bounds_i64 he,bounds_i64 hp0,bounds_i64 hp1,bounds_i64 hp2⟩⟩
   (hide fun w'' hw''=>KC rw cl R K np cp nt ct lp lt Ap At w w'' (hw.trans (hw''.mono hw.size)) hR hK (bounds_i64 hr) (bounds_i64 hc) hp ht)
end Go.Proofs.YtoaabebgmdbjeaaDoor
namespace Go.Proofs.YtoaabebgmdbjeaaDoor.PA
def Dm:List Int:= [228,9472,19968,769,128512,128]
def Dn:List Int:= [7,8,9,10,13,14,15,0,11]
def Cm:List (Int × Int):= [(0,77),(40,48),(40,66),(0,55),(0,56),(0,68),(0,69),(0,99),(35,56),(0,72)]
def BX:List Int:= [72,65,66,67,68,71,100,74,75,76,77,80,88,64,83,84,114,109,104,108,110,99,115]
def Cn (t:List Int):List Int:=(t.take 20).map fun x=>32+x%224
def Ba (ps:List Int):List Int:=(ps.take 5).map fun x=> -1+x%62
def BQ (rune f:Int):Int:=if f=104\/f=108\/rune%8=7 then 63 else 0
def BL (kind rune final:Int) (ps t:List Int):Ev:=
 if kind%6=0 then (if rune.tmod 7=3 then pr (Dm.getD (final%6).toNat 0) else pr (32+rune%95))
 else if kind%6=1 then ⟨2,0,0,0,Dn.getD (final%9).toNat 0, [], []⟩
 else if kind%6=2 then ⟨3,0,0,(Cm.getD (final%10).toNat (0,0)).1,(Cm.getD (final%10).toNat (0,0)).2, [], []⟩
 else if kind%6=3 then ⟨5,0,0,0,0, [],Cn t⟩
 else ⟨4,0,BQ rune (BX.getD (final%23).toNat 0),0,BX.getD (final%23).toNat 0,if Ba ps= [-1] then [] else Ba ps, []⟩
theorem FJ {α:Type} {p:α->Prop} [DecidablePred p] (l:List α) (d:α) (h: ∀x∈l,p x) (k:Nat) (hk:k<l.length):p (l.getD k d):=by
 rw [List.getD_eq_getElem?_getD,List.getElem?_eq_getElem hk]
 exact h _ (List.getElem_mem hk)
theorem FK (f:Int):64<=BX.getD (f%23).toNat 0/\BX.getD (f%23).toNat 0<=126:=
 FJ (p:=fun x=>64<=x/\x<=126) BX 0 (by decide) (f%23).toNat (by show _<23;omega)
theorem Ed (ps:List Int):(Ba ps).length<=5/\ ∀x∈Ba ps, -1<=x/\x<=60:=by
 refine⟨by simp [Ba];omega,fun x hx=>?_⟩
 obtain⟨y,_,rfl⟩:=List.mem_map.1 hx
 omega
theorem Jq (t:List Int):(Cn t).length<=20/\ ∀x∈Cn t,32<=x/\x<256:=by
 refine⟨by simp [Cn];omega,fun x hx=>?_⟩
 obtain⟨y,_,rfl⟩:=List.mem_map.1 hx
 omega
theorem Ei (kind rune final:Int) (ps t:List Int):Right (BL kind rune final ps t):=by
 unfold BL
 by_cases h0:kind%6=0
 ·rw [if_pos h0]
  by_cases hr:rune.tmod 7=3
  ·rw [if_pos hr]
   exact .inl ⟨_,rfl,FJ (p:=Cj) Dm 0 (by decide) (final%6).toNat (by show _<6;omega)⟩
  ·rw [if_neg hr]
   exact .inl ⟨_,rfl,.inl ⟨by omega,by omega⟩⟩
 rw [if_neg h0]
 by_cases h1:kind%6=1
 ·rw [if_pos h1]
  exact .inr (.inl ⟨_,rfl,FJ (p:=fun b=>0<=b/\b<32/\b≠24/\b≠26/\b≠27) Dn 0 (by decide) (final%9).toNat (by show _<9;omega)⟩)
 rw [if_neg h1]
 by_cases h2:kind%6=2
 ·rw [if_pos h2]
  exact .inr (.inr (.inl ⟨_,_,rfl,FJ (p:=fun q:Int × Int=>BD q.1/\48<=q.2/\q.2<=126/\(q.1=0-> ¬opens q.2)) Cm (0,0) (by decide) (final%10).toNat (by show _<10;omega)⟩))
 rw [if_neg h2]
 by_cases h3:kind%6=3
 ·rw [if_pos h3]
  have:=Jq t
  exact .inr (.inr (.inr (.inr ⟨_,rfl,by omega,this.2⟩)))
 rw [if_neg h3]
 have hf:=FK final
 have hp:=Ed ps
 generalize BX.getD (final%23).toNat 0=f at hf
 refine .inr (.inr (.inr (.inl ⟨_,0,f,_,rfl,?_,.inl rfl,hf.1,hf.2,?_,?_,?_⟩)))
 ·unfold BQ CQ
  split<;>omega
 ·split
  ·simp
  ·omega
 ·intro x hx
  split at hx
  ·cases hx
  ·have:=hp.2 x hx
   omega
 ·split
  ·simp
  ·assumption
end Go.Proofs.YtoaabebgmdbjeaaDoor.PA
namespace Go.Proofs.YtoaabebgmdbjeaaDoor
open Go.RowKit
def Tst (p:Prop) (W:World) (u:Value) (wx:World):Prop:= ∃b:Bool,u=.bool b/\Hid (b=true<->p)/\W=wx
end Go.Proofs.YtoaabebgmdbjeaaDoor
namespace Go.Proofs.YtoaabebgmdbjeaaDoor
open Go.RowKit
end Go.Proofs.YtoaabebgmdbjeaaDoor
namespace Go.Proofs.YtoaabebgmdbjeaaDoor
open Go.RowKit
def Ee (w:World) (ev:PA.Ev) (e:Ending) (w':World):Prop:=
 ∃(A:Option Addr) (c:Nat),e=.returned (.agg #[.int .i64 ev.kind,.int .i32 ev.rune,.int .u8 ev.priv,.int .u8 ev.inter,.int .u8 ev.final,.slice A ev.params.length c,.string (strOfNums ev.text)])/\Seen w' w'.heap.size A ev.params.length (Aj ev.params)/\Below w.heap.size w w'/\(∀ad,A=some ad->w.heap.size<=ad.block)/\ev.params.length<=c
theorem Pt {w:World} {base n c:Nat} {e:TypeId} {A:Option Addr} {xs:List Value} (h:w.ownsRow base e 1 (.slice A n c) n xs):n<=c:=by
 obtain⟨A',c',hv,h,_⟩:=Bf h
 cases hv
 exact h
theorem Pv {w:World} {base n c:Nat} {e:TypeId} {A:Option Addr} {xs:List Value} (h:w.ownsRow base e 1 (.slice A n c) n xs): ∀ad,A=some ad->base<=ad.block:=by
 rintro ad rfl
 rcases h.2 with ⟨hv,_⟩ | ⟨g,cap,cur,hv,hb,_⟩
 ·cases hv
 ·injection hv with h1 _ _
  injection h1 with h1
  subst h1
  exact hb
theorem DU {w w':World} {ev:PA.Ev} {e:Ending} {k r p i f:Int} (he:e=.returned (.agg #[.int .i64 k,.int .i32 r,.int .u8 p,.int .u8 i,.int .u8 f,.slice none 0 0,.string ⟨#[]⟩])) (h:ev=⟨k,r,p,i,f, [], []⟩) (hb:Below w.heap.size w w'):Ee w ev e w':=by
 subst h
 exact⟨none,0,he,Seen.Dz _ _ _,hb,(fun ad h=>by cases h),Nat.le_refl _⟩
theorem Pw (kd rn fn:Int) (Ap At:Option Addr) (np cp nt ct:Nat) (w:World) (lp lt:List Int) (hk: -9223372036854775808<=kd/\kd<=9223372036854775807) (hr: -9223372036854775808<=rn/\rn<=9223372036854775807) (hf: -9223372036854775808<=fn/\fn<=9223372036854775807) (h:kd%6=0) (h3: ¬rn.tmod 7=3):
  Calls Tryd.prog 10 #[.agg #[.int .i64 kd,.int .i64 rn,.int .i64 fn,.slice Ap np cp,.slice At nt ct]] w (Ee w (PA.BL kd rn fn lp lt)):=by
 have WK:=hide (fun w'=>AQ kd 0 5 0 (by rw [show(5-0+1:Int)=6 from rfl,h];rfl) w' hk.1 hk.2 (by omega) (by omega) (by omega))
 obtain⟨u,hu,hu0,hu1⟩: ∃u:Int,0+rn%(94-0+1)=u/\0<=u/\u<=94:=⟨0+rn%95,rfl,by omega,by omega⟩
 have WR:=hide (fun w'=>AQ rn 0 94 u hu w' hr.1 hr.2 (by omega) (by omega) (by omega))
 have HE:=hide (show PA.BL kd rn fn lp lt=⟨1,32+u,0,0,0, [], []⟩ by unfold PA.BL;rw [if_pos h,if_neg h3,show 32+rn%95=32+u by rw [<- hu,show(94-0+1:Int)=95 from rfl];omega];rfl)
 obtain⟨q,hq,hq0,hq1⟩: ∃q:Int,rn.tmod 7=q/\ -7<q/\q<7:=⟨_,rfl,by have:=Int.tmod_lt_of_pos (-rn) (show(0:Int)<7 by omega);rw [Int.neg_tmod] at this;omega,Int.tmod_lt_of_pos rn (by omega)⟩
 have d3:(q==3)=false:=by simpa using (hq▸h3)
 clear h hu h3
 go_enter Tryd.func10,Tryd.ntmps10
 go_wp2_with (first
   | (go_at_call_of 11 (Value.int IntKind.i64 5);go_must (refine(WK.out _).mono ?_);rintro e w' ⟨rfl,rfl⟩)
   | (go_at_call_of 11 (Value.int IntKind.i64 94);go_must (refine(WR.out _).mono ?_);rintro e w' ⟨rfl,rfl⟩)
   | (go_at_call_of 11 (Value.int IntKind.i64 5);go_must (refine(WF.out _).mono ?_);rintro e w' ⟨rfl,rfl⟩))
 refine bodyPost_ret (v:=.agg #[.int .i64 1,.int .i32 (32+u),.int .u8 0,.int .u8 0,.int .u8 0,.slice none 0 0,.string ⟨#[]⟩]) (by simp [results,Tryd.results10,go_sem]) rfl (DU rfl HE.out ?_)
 exact((Below.refl _ _).alloc (Nat.le_refl _) _).alloc (by simp) _
theorem Px (kd rn fn:Int) (Ap At:Option Addr) (np cp nt ct:Nat) (w:World) (lp lt:List Int) (hk: -9223372036854775808<=kd/\kd<=9223372036854775807) (hr: -9223372036854775808<=rn/\rn<=9223372036854775807) (hf: -9223372036854775808<=fn/\fn<=9223372036854775807) (h:kd%6=0) (h3:rn.tmod 7=3):
  Calls Tryd.prog 10 #[.agg #[.int .i64 kd,.int .i64 rn,.int .i64 fn,.slice Ap np cp,.slice At nt ct]] w (Ee w (PA.BL kd rn fn lp lt)):=by
 obtain⟨v,hv,hvn⟩: ∃v:Nat,fn%6=(v:Int)/\v<6:=⟨(fn%6).toNat,by omega,by omega⟩
 have WK:=hide (fun w'=>AQ kd 0 5 0 (by rw [show(5-0+1:Int)=6 from rfl,h];rfl) w' hk.1 hk.2 (by omega) (by omega) (by omega))
 obtain⟨u,hu,hu0,hu1⟩: ∃u:Int,0+rn%(94-0+1)=u/\0<=u/\u<=94:=⟨0+rn%95,rfl,by omega,by omega⟩
 have WR:=hide (fun w'=>AQ rn 0 94 u hu w' hr.1 hr.2 (by omega) (by omega) (by omega))
 have WF:=hide (fun w'=>AQ fn 0 5 (v:Int) (by rw [show(5-0+1:Int)=6 from rfl,hv];omega) w' hf.1 hf.2 (by omega) (by omega) (by omega))
 have T0:(((w.alloc (.cells #[.int .i64 kd,.int .i64 rn,.int .i64 fn,.slice Ap np cp,.slice At nt ct] 48)).alloc (.cells #[.int .i64 0,.int .i32 0,.int .u8 0,.int .u8 0,.int .u8 0,.slice none 0 0,.string ⟨#[]⟩] 38)).alloc (.cells #[.int .i32 228,.int .i32 9472,.int .i32 19968,.int .i32 769,.int .i32 128512,.int .i32 128] 21)).cell? ⟨w.heap.size+2,v,none⟩=some (.int .i32 (PA.Dm.getD v 0)):=by
  rw [(Box.fresh (w:=(w.alloc (.cells #[.int .i64 kd,.int .i64 rn,.int .i64 fn,.slice Ap np cp,.slice At nt ct] 48)).alloc (.cells #[.int .i64 0,.int .i32 0,.int .u8 0,.int .u8 0,.int .u8 0,.slice none 0 0,.string ⟨#[]⟩] 38)) (t:=21) (cs:= #[.int .i32 228,.int .i32 9472,.int .i32 19968,.int .i32 769,.int .i32 128512,.int .i32 128]) (g:=w.heap.size+2) (by simp)).cell]
  obtain rfl | rfl | rfl | rfl | rfl | rfl:v=0\/v=1\/v=2\/v=3\/v=4\/v=5:=by omega
  all_goals rfl
 have HE:=hide (show PA.BL kd rn fn lp lt=⟨1,PA.Dm.getD v 0,0,0,0, [], []⟩ by unfold PA.BL;rw [if_pos h,if_pos h3,hv,Int.toNat_natCast];rfl)
 have v0:(0:Int)<=(v:Int):=by omega
 have v1:(v:Int)<6:=by omega
 have v2:(v:Int).toNat=v:=by simp
 generalize PA.Dm.getD v 0=x at T0 HE
 clear h hu hv
 go_enter Tryd.func10,Tryd.ntmps10
 go_wp2_with (first
   | (go_at_call_of 11 (Value.int IntKind.i64 94);go_must (refine(WR.out _).mono ?_);rintro e w' ⟨rfl,rfl⟩)
   | (go_at_call_of 11 (Value.int IntKind.i64 kd);go_must (refine(WK.out _).mono ?_);rintro e w' ⟨rfl,rfl⟩)
   | (go_at_call_of 11 (Value.int IntKind.i64 fn);go_must (refine(WF.out _).mono ?_);rintro e w' ⟨rfl,rfl⟩))
 refine bodyPost_ret (v:=.agg #[.int .i64 1,.int .i32 x,.int .u8 0,.int .u8 0,.int .u8 0,.slice none 0 0,.string ⟨#[]⟩]) (by simp [results,Tryd.results10,go_sem]) rfl (DU rfl HE.out ?_)
 repeat(first | exact Below.refl _ _ | refine Below.drew ?_ | refine Below.alloc ?_ (by first | exact Nat.le_refl _ | (simp;done) | (simp;omega)) _)
theorem Qq (kd rn fn:Int) (Ap At:Option Addr) (np cp nt ct:Nat) (w:World) (lp lt:List Int) (hk: -9223372036854775808<=kd/\kd<=9223372036854775807) (hr: -9223372036854775808<=rn/\rn<=9223372036854775807) (hf: -9223372036854775808<=fn/\fn<=9223372036854775807) (h:kd%6=1):
  Calls Tryd.prog 10 #[.agg #[.int .i64 kd,.int .i64 rn,.int .i64 fn,.slice Ap np cp,.slice At nt ct]] w (Ee w (PA.BL kd rn fn lp lt)):=by
 obtain⟨v,hv,hvn⟩: ∃v:Nat,fn%9=(v:Int)/\v<9:=⟨(fn%9).toNat,by omega,by omega⟩
 have WK:=hide (fun w'=>AQ kd 0 5 1 (by rw [show(5-0+1:Int)=6 from rfl,h];rfl) w' hk.1 hk.2 (by omega) (by omega) (by omega))
 have WF:=hide (fun w'=>AQ fn 0 8 (v:Int) (by rw [show(8-0+1:Int)=9 from rfl,hv];omega) w' hf.1 hf.2 (by omega) (by omega) (by omega))
 have WR:=WF
 have T0:(((w.alloc (.cells #[.int .i64 kd,.int .i64 rn,.int .i64 fn,.slice Ap np cp,.slice At nt ct] 48)).alloc (.cells #[.int .i64 0,.int .i32 0,.int .u8 0,.int .u8 0,.int .u8 0,.slice none 0 0,.string ⟨#[]⟩] 38)).alloc (.cells #[.int .u8 7,.int .u8 8,.int .u8 9,.int .u8 10,.int .u8 13,.int .u8 14,.int .u8 15,.int .u8 0,.int .u8 11] 5)).cell? ⟨w.heap.size+2,v,none⟩=some (.int .u8 (PA.Dn.getD v 0)):=by
  rw [(Box.fresh (w:=(w.alloc (.cells #[.int .i64 kd,.int .i64 rn,.int .i64 fn,.slice Ap np cp,.slice At nt ct] 48)).alloc (.cells #[.int .i64 0,.int .i32 0,.int .u8 0,.int .u8 0,.int .u8 0,.slice none 0 0,.string ⟨#[]⟩] 38)) (t:=5) (cs:= #[.int .u8 7,.int .u8 8,.int .u8 9,.int .u8 10,.int .u8 13,.int .u8 14,.int .u8 15,.int .u8 0,.int .u8 11]) (g:=w.heap.size+2) (by simp)).cell]
  obtain rfl | rfl | rfl | rfl | rfl | rfl | rfl | rfl | rfl:v=0\/v=1\/v=2\/v=3\/v=4\/v=5\/v=6\/v=7\/v=8:=by omega
  all_goals rfl
 have HE:=hide (show PA.BL kd rn fn lp lt=⟨2,0,0,0,PA.Dn.getD v 0, [], []⟩ by unfold PA.BL;rw [if_neg (by omega),if_pos h,hv,Int.toNat_natCast])
 have v0:(0:Int)<=(v:Int):=by omega
 have v1:(v:Int)<9:=by omega
 have v2:(v:Int).toNat=v:=by simp
 generalize PA.Dn.getD v 0=x at T0 HE
 clear h hv
 go_enter Tryd.func10,Tryd.ntmps10
 go_wp2_with (first
   | (go_at_call_of 11 (Value.int IntKind.i64 94);go_must (refine(WR.out _).mono ?_);rintro e w' ⟨rfl,rfl⟩)
   | (go_at_call_of 11 (Value.int IntKind.i64 kd);go_must (refine(WK.out _).mono ?_);rintro e w' ⟨rfl,rfl⟩)
   | (go_at_call_of 11 (Value.int IntKind.i64 fn);go_must (refine(WF.out _).mono ?_);rintro e w' ⟨rfl,rfl⟩))
 refine bodyPost_ret (v:=.agg #[.int .i64 2,.int .i32 0,.int .u8 0,.int .u8 0,.int .u8 x,.slice none 0 0,.string ⟨#[]⟩]) (by simp [results,Tryd.results10,go_sem]) rfl (DU rfl HE.out ?_)
 repeat(first | exact Below.refl _ _ | refine Below.drew ?_ | refine Below.alloc ?_ (by first | exact Nat.le_refl _ | (simp;done) | (simp;omega)) _)
def EM:Array Value:= #[.int .i64 3,.int .i32 0,.int .u8 0,.int .u8 0,.int .u8 77,.slice none 0 0,.string ⟨#[]⟩,.int .i64 3,.int .i32 0,.int .u8 0,.int .u8 40,.int .u8 48,.slice none 0 0,.string ⟨#[]⟩,.int .i64 3,.int .i32 0,.int .u8 0,.int .u8 40,.int .u8 66,.slice none 0 0,.string ⟨#[]⟩,.int .i64 3,.int .i32 0,.int .u8 0,.int .u8 0,.int .u8 55,.slice none 0 0,.string ⟨#[]⟩,.int .i64 3,.int .i32 0,.int .u8 0,.int .u8 0,.int .u8 56,.slice none 0 0,.string ⟨#[]⟩,.int .i64 3,.int .i32 0,.int .u8 0,.int .u8 0,.int .u8 68,.slice none 0 0,.string ⟨#[]⟩,.int .i64 3,.int .i32 0,.int .u8 0,.int .u8 0,.int .u8 69,.slice none 0 0,.string ⟨#[]⟩,.int .i64 3,.int .i32 0,.int .u8 0,.int .u8 0,.int .u8 99,.slice none 0 0,.string ⟨#[]⟩,.int .i64 3,.int .i32 0,.int .u8 0,.int .u8 35,.int .u8 56,.slice none 0 0,.string ⟨#[]⟩,.int .i64 3,.int .i32 0,.int .u8 0,.int .u8 0,.int .u8 72,.slice none 0 0,.string ⟨#[]⟩]
theorem ND (v:Nat) (hv:v<10):EM[v*7+0]? =some (.int .i64 3):=by
 obtain rfl | rfl | rfl | rfl | rfl | rfl | rfl | rfl | rfl | rfl:v=0\/v=1\/v=2\/v=3\/v=4\/v=5\/v=6\/v=7\/v=8\/v=9:=by omega
 all_goals rfl
theorem NG (v:Nat) (hv:v<10):EM[v*7+1]? =some (.int .i32 0):=by
 obtain rfl | rfl | rfl | rfl | rfl | rfl | rfl | rfl | rfl | rfl:v=0\/v=1\/v=2\/v=3\/v=4\/v=5\/v=6\/v=7\/v=8\/v=9:=by omega
 all_goals rfl
theorem NH (v:Nat) (hv:v<10):EM[v*7+2]? =some (.int .u8 0):=by
 obtain rfl | rfl | rfl | rfl | rfl | rfl | rfl | rfl | rfl | rfl:v=0\/v=1\/v=2\/v=3\/v=4\/v=5\/v=6\/v=7\/v=8\/v=9:=by omega
 all_goals rfl
theorem NI (v:Nat) (hv:v<10):EM[v*7+3]? =some (.int .u8 (PA.Cm.getD v (0,0)).1):=by
 obtain rfl | rfl | rfl | rfl | rfl | rfl | rfl | rfl | rfl | rfl:v=0\/v=1\/v=2\/v=3\/v=4\/v=5\/v=6\/v=7\/v=8\/v=9:=by omega
 all_goals rfl
theorem NJ (v:Nat) (hv:v<10):EM[v*7+4]? =some (.int .u8 (PA.Cm.getD v (0,0)).2):=by
 obtain rfl | rfl | rfl | rfl | rfl | rfl | rfl | rfl | rfl | rfl:v=0\/v=1\/v=2\/v=3\/v=4\/v=5\/v=6\/v=7\/v=8\/v=9:=by omega
 all_goals rfl
theorem NK (v:Nat) (hv:v<10):EM[v*7+5]? =some (.slice none 0 0):=by
 obtain rfl | rfl | rfl | rfl | rfl | rfl | rfl | rfl | rfl | rfl:v=0\/v=1\/v=2\/v=3\/v=4\/v=5\/v=6\/v=7\/v=8\/v=9:=by omega
 all_goals rfl
theorem NM (v:Nat) (hv:v<10):EM[v*7+6]? =some (.string ⟨#[]⟩):=by
 obtain rfl | rfl | rfl | rfl | rfl | rfl | rfl | rfl | rfl | rfl:v=0\/v=1\/v=2\/v=3\/v=4\/v=5\/v=6\/v=7\/v=8\/v=9:=by omega
 all_goals rfl
theorem Qr (kd rn fn:Int) (Ap At:Option Addr) (np cp nt ct:Nat) (w:World) (lp lt:List Int) (hk: -9223372036854775808<=kd/\kd<=9223372036854775807) (hr: -9223372036854775808<=rn/\rn<=9223372036854775807) (hf: -9223372036854775808<=fn/\fn<=9223372036854775807) (h:kd%6=2):
  Calls Tryd.prog 10 #[.agg #[.int .i64 kd,.int .i64 rn,.int .i64 fn,.slice Ap np cp,.slice At nt ct]] w (Ee w (PA.BL kd rn fn lp lt)):=by
 obtain⟨v,hv,hvn⟩: ∃v:Nat,fn%10=(v:Int)/\v<10:=⟨(fn%10).toNat,by omega,by omega⟩
 have WK:=hide (fun w'=>AQ kd 0 5 2 (by rw [show(5-0+1:Int)=6 from rfl,h];rfl) w' hk.1 hk.2 (by omega) (by omega) (by omega))
 have WF:=hide (fun w'=>AQ fn 0 9 (v:Int) (by rw [show(9-0+1:Int)=10 from rfl,hv];omega) w' hf.1 hf.2 (by omega) (by omega) (by omega))
 have HE:=hide (show PA.BL kd rn fn lp lt=⟨3,0,0,(PA.Cm.getD v (0,0)).1,(PA.Cm.getD v (0,0)).2, [], []⟩ by unfold PA.BL;rw [if_neg (by omega),if_neg (by omega),if_pos h,hv,Int.toNat_natCast])
 have v0:(0:Int)<=(v:Int):=by omega
 have v1:(v:Int)<10:=by omega
 have v2:(v:Int).toNat=v:=by simp
 have HW:=hide (show∀W,(((w.alloc (.cells #[.int .i64 kd,.int .i64 rn,.int .i64 fn,.slice Ap np cp,.slice At nt ct] 48)).alloc (.cells #[.int .i64 0,.int .i32 0,.int .u8 0,.int .u8 0,.int .u8 0,.slice none 0 0,.string ⟨#[]⟩] 38)).alloc (.cells #[.int .i64 3,.int .i32 0,.int .u8 0,.int .u8 0,.int .u8 77,.slice none 0 0,.string ⟨#[]⟩,.int .i64 3,.int .i32 0,.int .u8 0,.int .u8 40,.int .u8 48,.slice none 0 0,.string ⟨#[]⟩,.int .i64 3,.int .i32 0,.int .u8 0,.int .u8 40,.int .u8 66,.slice none 0 0,.string ⟨#[]⟩,.int .i64 3,.int .i32 0,.int .u8 0,.int .u8 0,.int .u8 55,.slice none 0 0,.string ⟨#[]⟩,.int .i64 3,.int .i32 0,.int .u8 0,.int .u8 0,.int .u8 56,.slice none 0 0,.string ⟨#[]⟩,.int .i64 3,.int .i32 0,.int .u8 0,.int .u8 0,.int .u8 68,.slice none 0 0,.string ⟨#[]⟩,.int .i64 3,.int .i32 0,.int .u8 0,.int .u8 0,.int .u8 69,.slice none 0 0,.string ⟨#[]⟩,.int .i64 3,.int .i32 0,.int .u8 0,.int .u8 0,.int .u8 99,.slice none 0 0,.string ⟨#[]⟩,.int .i64 3,.int .i32 0,.int .u8 0,.int .u8 35,.int .u8 56,.slice none 0 0,.string ⟨#[]⟩,.int .i64 3,.int .i32 0,.int .u8 0,.int .u8 0,.int .u8 72,.slice none 0 0,.string ⟨#[]⟩] 38))=W->Box W (w.heap.size+2) 38 EM/\Box W (w.heap.size+1) 38 #[.int .i64 0,.int .i32 0,.int .u8 0,.int .u8 0,.int .u8 0,.slice none 0 0,.string ⟨#[]⟩] /\Below w.heap.size w W from by
  rintro W rfl
  refine⟨Box.fresh (by simp),(Box.fresh (by simp)).alloc _,?_⟩
  exact(((Below.refl _ _).alloc (Nat.le_refl _) _).alloc (by simp) _).alloc (by simp;omega) _)
 clear h hv
 go_enter Tryd.func10,Tryd.ntmps10
 go_wp2_with (first
   | (go_at_call_of 11 (Value.int IntKind.i64 kd);go_must (refine(WK.out _).mono ?_);rintro e w' ⟨rfl,rfl⟩)
   | (go_at_call_of 11 (Value.int IntKind.i64 fn);go_must (refine(WF.out _).mono ?_);rintro e w' ⟨rfl,rfl⟩;(generalize hWW:(((w.alloc (.cells #[.int .i64 kd,.int .i64 rn,.int .i64 fn,.slice Ap np cp,.slice At nt ct] 48)).alloc (.cells #[.int .i64 0,.int .i32 0,.int .u8 0,.int .u8 0,.int .u8 0,.slice none 0 0,.string ⟨#[]⟩] 38)).alloc (.cells #[.int .i64 3,.int .i32 0,.int .u8 0,.int .u8 0,.int .u8 77,.slice none 0 0,.string ⟨#[]⟩,.int .i64 3,.int .i32 0,.int .u8 0,.int .u8 40,.int .u8 48,.slice none 0 0,.string ⟨#[]⟩,.int .i64 3,.int .i32 0,.int .u8 0,.int .u8 40,.int .u8 66,.slice none 0 0,.string ⟨#[]⟩,.int .i64 3,.int .i32 0,.int .u8 0,.int .u8 0,.int .u8 55,.slice none 0 0,.string ⟨#[]⟩,.int .i64 3,.int .i32 0,.int .u8 0,.int .u8 0,.int .u8 56,.slice none 0 0,.string ⟨#[]⟩,.int .i64 3,.int .i32 0,.int .u8 0,.int .u8 0,.int .u8 68,.slice none 0 0,.string ⟨#[]⟩,.int .i64 3,.int .i32 0,.int .u8 0,.int .u8 0,.int .u8 69,.slice none 0 0,.string ⟨#[]⟩,.int .i64 3,.int .i32 0,.int .u8 0,.int .u8 0,.int .u8 99,.slice none 0 0,.string ⟨#[]⟩,.int .i64 3,.int .i32 0,.int .u8 0,.int .u8 35,.int .u8 56,.slice none 0 0,.string ⟨#[]⟩,.int .i64 3,.int .i32 0,.int .u8 0,.int .u8 0,.int .u8 72,.slice none 0 0,.string ⟨#[]⟩] 38))=W);(obtain⟨bt,bz,bl⟩:=HW.out W hWW);clear hWW;(have T0:=(bt.cell (v*7+0)).trans (ND v hvn));(have T1:=(bt.cell (v*7+1)).trans (NG v hvn));(have T2:=(bt.cell (v*7+2)).trans (NH v hvn));(have T3:=(bt.cell (v*7+3)).trans (NI v hvn));(have T4:=(bt.cell (v*7+4)).trans (NJ v hvn));(have T5:=(bt.cell (v*7+5)).trans (NK v hvn));(have T6:=(bt.cell (v*7+6)).trans (NM v hvn));simp only [Nat.add_zero] at T0;clear bt;generalize (PA.Cm.getD v (0,0)).1=x at T3 HE;generalize (PA.Cm.getD v (0,0)).2=y at T4 HE;(have fr:=bz.frozen);(obtain⟨k0,k1,k2,k3,k4,k5,k6⟩:=Box.seven bz)))
 obtain⟨j0,j1,j2,j3,j4,j5,j6⟩:=Box.seven (Box.Dt bz (.int .i64 3) (.int .i32 0) (.int .u8 0) (.int .u8 x) (.int .u8 y) (.slice none 0 0) (.string ⟨#[]⟩))
 have b7:=Al bl (show w.heap.size<=w.heap.size+1 by omega) (.int .i64 3) (.int .i32 0) (.int .u8 0) (.int .u8 x) (.int .u8 y) (.slice none 0 0) (.string ⟨#[]⟩)
 generalize (((((((W.setCell ⟨w.heap.size+1,0,none⟩ (.int .i64 3)).setCell ⟨w.heap.size+1,1,none⟩ (.int .i32 0)).setCell ⟨w.heap.size+1,2,none⟩ (.int .u8 0)).setCell ⟨w.heap.size+1,3,none⟩ (.int .u8 x)).setCell ⟨w.heap.size+1,4,none⟩ (.int .u8 y)).setCell ⟨w.heap.size+1,5,none⟩ (.slice none 0 0)).setCell ⟨w.heap.size+1,6,none⟩ (.string ⟨#[]⟩))=W7 at*
 refine bodyPost_ret (v:=.agg #[.int .i64 3,.int .i32 0,.int .u8 0,.int .u8 x,.int .u8 y,.slice none 0 0,.string ⟨#[]⟩]) (by simp [results,Tryd.results10,go_sem,j0,j1,j2,j3,j4,j5,j6]) rfl (DU rfl HE.out b7)
end Go.Proofs.YtoaabebgmdbjeaaDoor
namespace Go.Proofs.YtoaabebgmdbjeaaDoor
open Go.RowKit
theorem Box.five {w:World} {g:Nat} {t:TypeId} {a b c d e:Value} (x:Box w g t #[a,b,c,d,e]):
  w.cell? ⟨g,0,none⟩=some a/\w.cell? ⟨g,1,none⟩=some b/\w.cell? ⟨g,2,none⟩=some c/\w.cell? ⟨g,3,none⟩=some d/\w.cell? ⟨g,4,none⟩=some e:=
 ⟨x.cell 0,x.cell 1,x.cell 2,x.cell 3,x.cell 4⟩
def Bv (t:List Int) (k:Nat):List Int:=(t.take k).map fun x=>32+x%224
theorem Fy {t:List Int} {k:Nat} {x:Int} (hx:t[k]? =some x):Bv t (k+1)=Bv t k++ [32+x%224] :=by
 unfold Bv
 rw [List.take_add_one,hx]
 simp
theorem EN {t:List Int} {k:Nat} (h:k=20\/k=t.length) (h20:k<=20) (hl:k<=t.length):Bv t k=PA.Cn t:=by
 unfold Bv PA.Cn
 rcases h with rfl | rfl
 ·rfl
 ·rw [List.take_of_length_le (Nat.le_refl _),List.take_of_length_le (by omega)]
theorem Qs (kd rn fn:Int) (Ap At:Option Addr) (np cp nt ct:Nat) (w:World) (lp lt:List Int) (hk: -9223372036854775808<=kd/\kd<=9223372036854775807) (hr: -9223372036854775808<=rn/\rn<=9223372036854775807) (hf: -9223372036854775808<=fn/\fn<=9223372036854775807) (h:kd%6=3) (hT:Arg .u8 w At nt ct lt):
  Calls Tryd.prog 10 #[.agg #[.int .i64 kd,.int .i64 rn,.int .i64 fn,.slice Ap np cp,.slice At nt ct]] w (Ee w (PA.BL kd rn fn lp lt)):=by
 obtain⟨i0,hi,hz0,hz1,hz2⟩:=info_parts Bz
 have WK:=hide (fun w'=>AQ kd 0 5 3 (by rw [show(5-0+1:Int)=6 from rfl,h];rfl) w' hk.1 hk.2 (by omega) (by omega) (by omega))
 have HE:=hide (show PA.BL kd rn fn lp lt=⟨5,0,0,0,0, [],PA.Cn lt⟩ by unfold PA.BL;rw [if_neg (by omega),if_neg (by omega),if_neg (by omega),if_pos h])
 have HA:=hide hT
 have hcap:=hT.cap
 have hle:=hT.le
 unfold maxLen at hcap
 clear h hT
 go_enter Tryd.func10,Tryd.ntmps10
 go_upto_region 1 with fail
 have bK:=(Box.new w 48 #[.int .i64 kd,.int .i64 rn,.int .i64 fn,.slice Ap np cp,.slice At nt ct]).alloc (.cells #[.int .i64 0,.int .i32 0,.int .u8 0,.int .u8 0,.int .u8 0,.slice none 0 0,.string ⟨#[]⟩] 38)
 have bZ:=Box.fresh (w:=w.alloc (.cells #[.int .i64 kd,.int .i64 rn,.int .i64 fn,.slice Ap np cp,.slice At nt ct] 48)) (t:=38) (cs:= #[.int .i64 0,.int .i32 0,.int .u8 0,.int .u8 0,.int .u8 0,.slice none 0 0,.string ⟨#[]⟩]) (g:=w.heap.size+1) (by simp)
 have bb:Below w.heap.size w ((w.alloc (.cells #[.int .i64 kd,.int .i64 rn,.int .i64 fn,.slice Ap np cp,.slice At nt ct] 48)).alloc (.cells #[.int .i64 0,.int .i32 0,.int .u8 0,.int .u8 0,.int .u8 0,.slice none 0 0,.string ⟨#[]⟩] 38)):=((Below.refl _ _).alloc (Nat.le_refl _) _).alloc (by simp) _
 generalize (w.alloc (.cells #[.int .i64 kd,.int .i64 rn,.int .i64 fn,.slice Ap np cp,.slice At nt ct] 48)).alloc (.cells #[.int .i64 0,.int .i32 0,.int .u8 0,.int .u8 0,.int .u8 0,.slice none 0 0,.string ⟨#[]⟩] 38)=w2 at bK bZ bb⊢
 have HAS:=hide ((HA.out.seen.below bb).more bb.size)
 have BB:=hide bb
 have BK:=hide bK
 have BZ:=hide bZ
 have hzb:w.heap.size<=w.heap.size+1:=by omega
 generalize w.heap.size+1=gZ at BZ hzb⊢
 generalize hgK:w.heap.size=gK at BK⊢
 rw [hgK] at hzb
 obtain⟨k0,k1,k2,k3,k4⟩:=Box.five BK.out
 clear bb bK bZ
 go_wp2_with (go_at_call 11;go_must (refine(WK.out _).mono ?_);rintro e w' ⟨rfl,rfl⟩)
 go_loopw [5,6] (fun u i wr=> ∃k:Nat,k<=20/\k<=nt/\i=.int .i64 k/\wr.ownsRow w2.heap.size 5 1 u k (u8s (Bv lt k))/\Below w2.heap.size w2 wr) (fun _ i _=>20-(intOf i).toNat)
 case atStart=>exact⟨0,by omega,Nat.zero_le _,rfl,World.ownsRow_nil _ _ _ _,Below.refl _ _⟩
 case round=>
  obtain⟨k,hk20,hkn,rfl,ho,b0⟩:=hrel
  obtain⟨j0,j1,j2,j3,j4⟩:=Box.five (BK.out.below b0 BK.out.lt)
  clear k0 k1 k2 k3 k4
  have cs:nt<=k\/(k<nt/\20<=k)\/(k<nt/\k<20):=by omega
  rcases cs with a | ⟨a,a'⟩ | ⟨a,a'⟩
  ·have HX:=hide (EN (t:=lt) (k:=k) (by have:=HA.out.len;omega) hk20 (by have:=HA.out.len;omega))
   rw [HX.out] at ho
   obtain⟨Ab,cb,rfl,_⟩:=Bf ho
   have cv:=Cc (c:=cb) (Seen.Ct ho)
   have bz:=BZ.out.below b0 BZ.out.lt
   have fr:=bz.frozen
   obtain⟨i1,i2,i3,i4,i5,i6,i7⟩:=Box.seven bz
   generalize hs:strOfNums (PA.Cn lt)=s at cv
   have HSS:=hide hs
   clear hs ho
   go_wp2_with fail
   obtain⟨m0,m1,m2,m3,m4,m5,m6⟩:=Box.seven (Box.Dt bz (.int .i64 5) (.int .i32 0) (.int .u8 0) (.int .u8 0) (.int .u8 0) (.slice none 0 0) (.string s))
   have b7:=Al (BB.out.trans (b0.mono (hgK▸BB.out.size))) (hgK▸hzb) (.int .i64 5) (.int .i32 0) (.int .u8 0) (.int .u8 0) (.int .u8 0) (.slice none 0 0) (.string s)
   generalize (((((((wr.setCell ⟨gZ,0,none⟩ (.int .i64 5)).setCell ⟨gZ,1,none⟩ (.int .i32 0)).setCell ⟨gZ,2,none⟩ (.int .u8 0)).setCell ⟨gZ,3,none⟩ (.int .u8 0)).setCell ⟨gZ,4,none⟩ (.int .u8 0)).setCell ⟨gZ,5,none⟩ (.slice none 0 0)).setCell ⟨gZ,6,none⟩ (.string s))=W7 at*
   refine bodyPost_ret (v:=.agg #[.int .i64 5,.int .i32 0,.int .u8 0,.int .u8 0,.int .u8 0,.slice none 0 0,.string s]) (by simp [results,Tryd.results10,go_sem,m0,m1,m2,m3,m4,m5,m6]) rfl ?_
   rw [HE.out]
   exact⟨none,0,by rw [<- HSS.out];rfl,Seen.Dz _ _ _,b7,(fun ad h=>by cases h),Nat.le_refl _⟩
  ·have HX:=hide (EN (t:=lt) (k:=k) (by have:=HA.out.len;omega) hk20 (by have:=HA.out.len;omega))
   rw [HX.out] at ho
   obtain⟨Ab,cb,rfl,_⟩:=Bf ho
   have cv:=Cc (c:=cb) (Seen.Ct ho)
   have bz:=BZ.out.below b0 BZ.out.lt
   have fr:=bz.frozen
   obtain⟨i1,i2,i3,i4,i5,i6,i7⟩:=Box.seven bz
   generalize hs:strOfNums (PA.Cn lt)=s at cv
   have HSS:=hide hs
   clear hs ho
   go_wp2_with fail
   obtain⟨m0,m1,m2,m3,m4,m5,m6⟩:=Box.seven (Box.Dt bz (.int .i64 5) (.int .i32 0) (.int .u8 0) (.int .u8 0) (.int .u8 0) (.slice none 0 0) (.string s))
   have b7:=Al (BB.out.trans (b0.mono (hgK▸BB.out.size))) (hgK▸hzb) (.int .i64 5) (.int .i32 0) (.int .u8 0) (.int .u8 0) (.int .u8 0) (.slice none 0 0) (.string s)
   generalize (((((((wr.setCell ⟨gZ,0,none⟩ (.int .i64 5)).setCell ⟨gZ,1,none⟩ (.int .i32 0)).setCell ⟨gZ,2,none⟩ (.int .u8 0)).setCell ⟨gZ,3,none⟩ (.int .u8 0)).setCell ⟨gZ,4,none⟩ (.int .u8 0)).setCell ⟨gZ,5,none⟩ (.slice none 0 0)).setCell ⟨gZ,6,none⟩ (.string s))=W7 at*
   refine bodyPost_ret (v:=.agg #[.int .i64 5,.int .i32 0,.int .u8 0,.int .u8 0,.int .u8 0,.slice none 0 0,.string s]) (by simp [results,Tryd.results10,go_sem,m0,m1,m2,m3,m4,m5,m6]) rfl ?_
   rw [HE.out]
   exact⟨none,0,by rw [<- HSS.out];rfl,Seen.Dz _ _ _,b7,(fun ad h=>by cases h),Nat.le_refl _⟩
  ·obtain⟨ad,u,rfl,_,hu,hc⟩:=(HAS.out.below b0).at_ a
   rw [List.getElem?_map] at hu
   obtain⟨x,hx,rfl⟩:=Option.map_eq_some_iff.1 hu
   have hxr:=bounds_u8 (HA.out.wf x (List.mem_of_getElem? hx))
   obtain⟨y,hy,hy0,hy1⟩: ∃y:Int,32+x%(255-32+1)=y/\32<=y/\y<=255:=⟨32+x%224,rfl,by omega,by omega⟩
   have WI:=hide (fun w'=>AQ x 32 255 y hy w' (by omega) (by omega) (by omega) (by omega) (by omega))
   have HS:=hide (show Bv lt (k+1)=Bv lt k++ [y] by rw [Fy hx, <- hy];rfl)
   clear hu hx hy
   go_wp2_with (first
    | (go_at_call 11;go_must (refine(WI.out _).mono ?_);rintro e w' ⟨rfl,rfl⟩)
    | (at_builtin;go_must (refine CZ rfl (.tmp 72) (.tmp 81) 34 rfl w2.heap.size 5 i0 _ 1 Tryd.underlying34 hi hz0 hz1 hz2 rfl u5 _ _ rfl ho _ _ _ rfl rfl rfl (by omega) (by omega) b0.size ?_);intro v' w1 hown1 hg1 hm1))
   go_roundw
   case rel=>exact⟨k+1,by omega,by omega,by go_num,by rw [HS.out];simpa [u8s] using hown1,b0.grown hg1 b0.size (fun g hg=>(ho.lt g hg).1)⟩
   case measure=>simp [intOf];omega
end Go.Proofs.YtoaabebgmdbjeaaDoor
namespace Go.Proofs.YtoaabebgmdbjeaaDoor
open Go.RowKit
def BM (t:List Int) (k:Nat):List Int:=(t.take k).map fun x=> -1+x%62
theorem FL {t:List Int} {k:Nat} {x:Int} (hx:t[k]? =some x):BM t (k+1)=BM t k++ [-1+x%62] :=by
 unfold BM
 rw [List.take_add_one,hx]
 simp
theorem Fa {t:List Int} {k:Nat} (h:k=5\/k=t.length) (h20:k<=5) (hl:k<=t.length):BM t k=PA.Ba t:=by
 unfold BM PA.Ba
 rcases h with rfl | rfl
 ·rfl
 ·rw [List.take_of_length_le (Nat.le_refl _),List.take_of_length_le (by omega)]
def Making (w2:World) (gE B:Nat) (F:Int) (lp:List Int) (np k:Nat) (wr:World):Prop:=
 ∃v',Box wr gE 38 #[.int .i64 4,.int .i32 0,.int .u8 0,.int .u8 0,.int .u8 F,v',.string ⟨#[]⟩] /\wr.ownsRow B 3 1 v' k (Aj (BM lp k))/\Below w2.heap.size w2 wr/\B<=wr.heap.size/\k<=5/\k<=np
def Oa (w2:World) (gE B:Nat) (F:Int) (lp:List Int) (np:Nat) (wr:World):Prop:= ∃k,Making w2 gE B F lp np k wr/\(k=5\/k=np)
def finals:ByteArray:=⟨#[72,65,66,67,68,71,100,74,75,76,77,80,88,64,83,84,114,109,104,108,110,99,115]⟩
theorem Ls (v:Nat) (hv:v<23): ∀h:v<finals.size,((finals[v]'h).toNat:Int)=PA.BX.getD v 0:=by
 obtain rfl | rfl | rfl | rfl | rfl | rfl | rfl | rfl | rfl | rfl | rfl | rfl | rfl | rfl | rfl | rfl | rfl | rfl | rfl | rfl | rfl | rfl | rfl:v=0\/v=1\/v=2\/v=3\/v=4\/v=5\/v=6\/v=7\/v=8\/v=9\/v=10\/v=11\/v=12\/v=13\/v=14\/v=15\/v=16\/v=17\/v=18\/v=19\/v=20\/v=21\/v=22:=by omega
 all_goals (intro h;rfl)
theorem Qt (kd rn fn:Int) (Ap At:Option Addr) (np cp nt ct:Nat) (w:World) (lp lt:List Int) (hk: -9223372036854775808<=kd/\kd<=9223372036854775807) (hr: -9223372036854775808<=rn/\rn<=9223372036854775807) (hf: -9223372036854775808<=fn/\fn<=9223372036854775807) (h:kd%6=4\/kd%6=5) (hP:Arg .i64 w Ap np cp lp):
  Calls Tryd.prog 10 #[.agg #[.int .i64 kd,.int .i64 rn,.int .i64 fn,.slice Ap np cp,.slice At nt ct]] w (Ee w (PA.BL kd rn fn lp lt)):=by
 obtain⟨i0,hi,hz0,hz1,hz2⟩:=info_parts JY
 obtain⟨kv,hkv,hkv4,hkv5⟩: ∃kv:Int,0+kd%(5-0+1)=kv/\4<=kv/\kv<=5:=⟨0+kd%6,rfl,by omega,by omega⟩
 have WK:=hide (fun w'=>AQ kd 0 5 kv hkv w' hk.1 hk.2 (by omega) (by omega) (by omega))
 obtain⟨v,hv,hvn⟩: ∃v:Nat,fn%23=(v:Int)/\v<23:=⟨(fn%23).toNat,by omega,by omega⟩
 have WF:=hide (fun w'=>AQ fn 0 22 (v:Int) (by rw [show(22-0+1:Int)=23 from rfl,hv];omega) w' hf.1 hf.2 (by omega) (by omega) (by omega))
 have hfin:=Ls v hvn
 have hfb:=PA.FK fn
 rw [hv,Int.toNat_natCast] at hfb
 have HE:=hide (show PA.BL kd rn fn lp lt=⟨4,0,PA.BQ rn (PA.BX.getD v 0),0,PA.BX.getD v 0,if PA.Ba lp= [-1] then [] else PA.Ba lp, []⟩ by unfold PA.BL;rw [if_neg (by omega),if_neg (by omega),if_neg (by omega),if_neg (by omega),hv,Int.toNat_natCast])
 generalize PA.BX.getD v 0=F at hfin HE hfb
 have HA:=hide hP
 have hcap:=hP.cap
 have hle:=hP.le
 unfold maxLen at hcap
 have v0:(0:Int)<=(v:Int):=by omega
 have v1:(v:Int)<23:=by omega
 have d0:(kv==0)=false:=by simp;omega
 have d1:(kv==1)=false:=by simp;omega
 have d2:(kv==2)=false:=by simp;omega
 have d3:(kv==3)=false:=by simp;omega
 clear h hP hkv hv hkv4 hkv5
 go_enter Tryd.func10,Tryd.ntmps10
 go_upto_region 1 with fail
 have bK:=(Box.new w 48 #[.int .i64 kd,.int .i64 rn,.int .i64 fn,.slice Ap np cp,.slice At nt ct]).alloc (.cells #[.int .i64 0,.int .i32 0,.int .u8 0,.int .u8 0,.int .u8 0,.slice none 0 0,.string ⟨#[]⟩] 38)
 have bZ:=Box.fresh (w:=w.alloc (.cells #[.int .i64 kd,.int .i64 rn,.int .i64 fn,.slice Ap np cp,.slice At nt ct] 48)) (t:=38) (cs:= #[.int .i64 0,.int .i32 0,.int .u8 0,.int .u8 0,.int .u8 0,.slice none 0 0,.string ⟨#[]⟩]) (g:=w.heap.size+1) (by simp)
 have bb:Below w.heap.size w ((w.alloc (.cells #[.int .i64 kd,.int .i64 rn,.int .i64 fn,.slice Ap np cp,.slice At nt ct] 48)).alloc (.cells #[.int .i64 0,.int .i32 0,.int .u8 0,.int .u8 0,.int .u8 0,.slice none 0 0,.string ⟨#[]⟩] 38)):=((Below.refl _ _).alloc (Nat.le_refl _) _).alloc (by simp) _
 generalize (w.alloc (.cells #[.int .i64 kd,.int .i64 rn,.int .i64 fn,.slice Ap np cp,.slice At nt ct] 48)).alloc (.cells #[.int .i64 0,.int .i32 0,.int .u8 0,.int .u8 0,.int .u8 0,.slice none 0 0,.string ⟨#[]⟩] 38)=w2 at bK bZ bb⊢
 have HAS:=hide ((HA.out.seen.below bb).more bb.size)
 have BB:=hide bb
 have BK:=hide bK
 have BZ:=hide bZ
 have hzb:w.heap.size<=w.heap.size+1:=by omega
 generalize w.heap.size+1=gZ at BZ hzb⊢
 generalize hgK:w.heap.size=gK at BK⊢
 rw [hgK] at hzb
 obtain⟨k0,k1,k2,k3,k4⟩:=Box.five BK.out
 clear bb bK bZ
 unfold finals at hfin
 go_upto_region 20 with (first
  | (go_at_call_of 11 (Value.int IntKind.i64 kd);go_must (refine(WK.out _).mono ?_);rintro e w' ⟨rfl,rfl⟩)
  | (go_at_call_of 11 (Value.int IntKind.i64 fn);go_must (refine(WF.out _).mono ?_);rintro e w' ⟨rfl,rfl⟩))
 have bx:=Box.new w2 38 #[.int .i64 4,.int .i32 0,.int .u8 0,.int .u8 0,.int .u8 F,.slice none 0 0,.string ⟨#[]⟩]
 have b23:Below w2.heap.size w2 (w2.alloc (.cells #[.int .i64 4,.int .i32 0,.int .u8 0,.int .u8 0,.int .u8 F,.slice none 0 0,.string ⟨#[]⟩] 38)):=(Below.refl _ _).alloc (Nat.le_refl _) _
 have Qu:(w2.alloc (.cells #[.int .i64 4,.int .i32 0,.int .u8 0,.int .u8 0,.int .u8 F,.slice none 0 0,.string ⟨#[]⟩] 38)).heap.size=w2.heap.size+1:=by simp
 generalize w2.alloc (.cells #[.int .i64 4,.int .i32 0,.int .u8 0,.int .u8 0,.int .u8 F,.slice none 0 0,.string ⟨#[]⟩] 38)=w3 at bx b23 Qu⊢
 have hEB:w2.heap.size<w3.heap.size:=by omega
 obtain⟨gE,hgE⟩: ∃gE,w2.heap.size=gE:=⟨_,rfl⟩
 have HGE:=hide hgE
 rw [hgE] at bx hEB
 rw [hgE]
 have HB3:=hide b23
 have HBX:=hide bx
 clear Qu hgE b23 bx hfin d0 d1 d2 d3 k0 k1 k2 k3 k4
 go_upto_block 3 with fail
 go_cut [] (fun wx=>Oa w2 gE w3.heap.size F lp np wx)
 case first=>
  go_wp2_with fail
  go_loopw [8] (fun i wr=> ∃k:Nat,i=.int .i64 k/\Making w2 gE w3.heap.size F lp np k wr) (fun i _=>5-(intOf i).toNat)
  case atStart=>exact⟨0,rfl,_,HBX.out,World.ownsRow_nil _ _ _ _,HB3.out,Nat.le_refl _,by omega,Nat.zero_le _⟩
  case round=>
   obtain⟨k,rfl,v',bx,ho,b2,hB,hk5,hkn⟩:=hrel
   obtain⟨Av,cv,rfl,_⟩:=Bf ho
   have bk:=BK.out.below b2 BK.out.lt
   obtain⟨j0,j1,j2,j3,j4⟩:=Box.five bk
   obtain⟨m0,m1,m2,m3,m4,m5,m6⟩:=Box.seven bx
   have fr:=bx.frozen
   have cs:np<=k\/(k<np/\5<=k)\/(k<np/\k<5):=by omega
   rcases cs with a | ⟨a,a'⟩ | ⟨a,a'⟩
   ·go_wp2_with fail
    go_meet
    exact⟨k,⟨_,bx,ho,b2,hB,hk5,hkn⟩,by omega⟩
   ·go_wp2_with fail
    go_meet
    exact⟨k,⟨_,bx,ho,b2,hB,hk5,hkn⟩,by omega⟩
   ·obtain⟨ad,u,rfl,_,hu,hc⟩:=(HAS.out.below b2).at_ a
    rw [List.getElem?_map] at hu
    obtain⟨x,hx,rfl⟩:=Option.map_eq_some_iff.1 hu
    have hxr:=bounds_i64 (HA.out.wf x (List.mem_of_getElem? hx))
    obtain⟨y,hy,hy0,hy1⟩: ∃y:Int, -1+x%(60- -1+1)=y/\ -1<=y/\y<=60:=⟨-1+x%62,rfl,by omega,by omega⟩
    have WI:=hide (fun w'=>AQ x (-1) 60 y hy w' hxr.1 hxr.2 (by omega) (by omega) (by omega))
    have HS:=hide (show BM lp (k+1)=BM lp k++ [y] by rw [FL hx, <- hy];rfl)
    have HBx:=hide bx
    have HO:=hide ho
    have hne:(Value.slice Av k cv).ownBlock≠some gE:=AP ho bx (by decide)
    have m5o: ∀o,(wr.alloc o).cell? ⟨gE,5,none⟩=some (.slice Av k cv):=fun o=>(World.cell?_alloc_lt wr o ⟨gE,5,none⟩ bx.lt).trans m5
    clear hu hx hy
    go_wp2_with fail
    go_region_law (first
     | (go_simp;go_at_call 11;refine(WI.out _).mono ?_;rintro e w' ⟨rfl,rfl⟩)
     | (refine Bw (by rfl) (.tmp 102) (.tmp 109) 36 (by rfl) w3.heap.size 3 i0 _ 8 Tryd.underlying36 hi hz0 hz1 hz2 rfl (.slice Av k cv) k (Aj (BM lp k)) (by rfl) (Br (AZ HO.out (.cells #[.int .i64 y] 3))) (wr.heap.size+1) (some ⟨wr.heap.size,0,none⟩) 1 1 [.int .i64 y] (by rfl) (Seen.fresh (t:=3) (cs:= #[.int .i64 y]) rfl rfl rfl rfl).drew (by simp [Value.oneCell']) (by omega) (by omega) (by simp;omega) ?_;intro v1 w1 hown1 hg1 hm1;(obtain⟨Aw,cw,rfl,_⟩:=Bf hown1);have bx1:=(HBx.out.alloc (.cells #[.int .i64 y] 3)).drew.grown hg1 (fun e=>hne e.symm);have fr1:=bx1.frozen;obtain⟨q0,q1,q2,q3,q4,q5,q6⟩:=Box.seven bx1))
    all_goals
     have hq1:wr.heap.size<=w1.heap.size:=Nat.le_trans (show wr.heap.size<=(wr.alloc (.cells #[.int .i64 y] 3)).drew.heap.size by simp [World.drew]) hg1.size
     have b21:Below w2.heap.size w2 w1:=(b2.alloc b2.size (.cells #[.int .i64 y] 3)).drew.trans (Cg hg1 (by have:=b2.size;simp;omega) (fun g hg=>by have:=(HO.out.lt g hg).1;have:=HGE.out;omega))
     have b22:=b21.setCell (p:=⟨gE,5,none⟩) (show w2.heap.size<=gE by have:=HGE.out;omega) (.slice Aw (k+1) cw)
     have bx2:Box (w1.setCell ⟨gE,5,none⟩ (.slice Aw (k+1) cw)) gE 38 #[.int .i64 4,.int .i32 0,.int .u8 0,.int .u8 0,.int .u8 F,.slice Aw (k+1) cw,.string ⟨#[]⟩] :=by simpa using bx1.set 5 (.slice Aw (k+1) cw)
     have ow2:=CG hown1 (p:=⟨gE,5,none⟩) (AP hown1 bx1 (by decide)) (.slice Aw (k+1) cw)
     have hq2:w3.heap.size<=(w1.setCell ⟨gE,5,none⟩ (.slice Aw (k+1) cw)).heap.size:=by simp [World.setCell];omega
     have R:=hide (show Making w2 gE w3.heap.size F lp np (k+1) (w1.setCell ⟨gE,5,none⟩ (.slice Aw (k+1) cw)) from⟨_,bx2,by rw [HS.out];simpa [Aj] using ow2,b22,hq2,by omega,by omega⟩)
     clear b21 b22 bx2 ow2 hq1 hq2 bx1
     go_wp2_with fail
     go_roundw
     case rel=>exact⟨k+1,by go_num,R.out⟩
     case measure=>simp [intOf];omega
 case rest=>
  obtain⟨k,⟨v',bx,ho,b2,hB,hk5,hkn⟩,hlast⟩:=hcut
  have HX:=hide (Fa (t:=lp) (k:=k) (by have:=HA.out.len;omega) hk5 (by have:=HA.out.len;omega))
  rw [HX.out] at ho
  have hbd:=PA.Ed lp
  generalize PA.Ba lp=ps at ho HE hbd
  have hlen:ps.length=k:=by simpa [Aj] using ho.1
  obtain⟨Av,cv,rfl,_⟩:=Bf ho
  have HS:=hide (Seen.Ct ho)
  have hne:(Value.slice Av k cv).ownBlock≠some gE:=AP ho bx (by decide)
  have bk:=BK.out.below b2 BK.out.lt
  have bz:=BZ.out.below b2 BZ.out.lt
  obtain⟨j0,j1,j2,j3,j4⟩:=Box.five bk
  obtain⟨m0,m1,m2,m3,m4,m5,m6⟩:=Box.seven bx
  have fr:=bx.frozen
  have hEZ:gE≠gZ:=by have:=BZ.out.lt;have:=HGE.out;omega
  have hEK:gE≠gK:=by have:=BK.out.lt;have:=HGE.out;omega
  have Ob:=hide bx
  have KV:=hide bz
  have HO:=hide ho
  have HL:=hide hlen
  have B2:=hide (BB.out.trans (b2.mono (hgK▸BB.out.size)))
  clear bx bz bk ho b2 hB HX HB3 HBX hlen
  have em:=L9 3 (by omega) rn
  simp at em
  have Fin: ∀(P:Int) (W:World) (A:Option Addr) (c n:Nat) (l:List Int),P=PA.BQ rn F->(l=if ps= [-1] then [] else ps)->l.length=n->Seen W W.heap.size A n (Aj l)->Below w.heap.size w W->(∀ad,A=some ad->w.heap.size<=ad.block)->n<=c->Ee w (PA.BL kd rn fn lp lt) (.returned (.agg #[.int .i64 4,.int .i32 0,.int .u8 P,.int .u8 0,.int .u8 F,.slice A n c,.string ⟨#[]⟩])) W:=by
   intro P W A c n l hP hl hn hs hb hnw hnc
   subst hn
   rw [HE.out, <- hP, <- hl]
   exact⟨A,c,rfl,hs,hb,hnw,hnc⟩
  have FIN:=hide Fin
  clear Fin
  have NP:(F=104/\PA.BQ rn F=63)\/(F≠104/\F=108/\PA.BQ rn F=63)\/(F≠104/\F≠108/\rn%8=7/\PA.BQ rn F=63)\/(F≠104/\F≠108/\rn%8≠7/\PA.BQ rn F=0):=by
   unfold PA.BQ
   split<;>omega
  go_upto_region 24 with fail
  go_cut [125] (fun u wx=>Tst (PA.BQ rn F=63) wc u wx)
  case first=>
   rcases NP with ⟨p1,p⟩ | ⟨p1,p2,p⟩ | ⟨p1,p2,p3,p⟩ | ⟨p1,p2,p3,p⟩
   ·have d1:(F==104)=true:=by simpa using p1
    have HP:=hide p
    clear p p1
    go_wp2_with fail
    go_meet
    exact⟨true,rfl,hide (by simp [HP.out]),rfl⟩
   ·have d1:(F==104)=false:=by simpa using p1
    have d2:(F==108)=true:=by simpa using p2
    have HP:=hide p
    clear p p1 p2
    go_wp2_with fail
    go_meet
    exact⟨true,rfl,hide (by simp [HP.out]),rfl⟩
   ·have d1:(F==104)=false:=by simpa using p1
    have d2:(F==108)=false:=by simpa using p2
    have d3:(rn%8==7)=true:=by simpa using p3
    have HP:=hide p
    clear p p1 p2 p3
    go_wp2_with fail
    go_meet
    exact⟨true,rfl,hide (by simp [HP.out]),rfl⟩
   ·have d1:(F==104)=false:=by simpa using p1
    have d2:(F==108)=false:=by simpa using p2
    have d3:(rn%8==7)=false:=by simpa using p3
    have HP:=hide p
    clear p p1 p2 p3
    go_wp2_with fail
    go_meet
    exact⟨false,rfl,hide (by simp [HP.out]),rfl⟩
  case rest=>
   obtain⟨b,rfl,HB,rfl⟩:=hcut
   have hP0:PA.BQ rn F=if b=true then 63 else 0:=by
    rcases NP with ⟨_,p⟩ | ⟨_,_,p⟩ | ⟨_,_,_,p⟩ | ⟨_,_,_,p⟩
    ·rw [if_pos (HB.out.2 p),p]
    ·rw [if_pos (HB.out.2 p),p]
    ·rw [if_pos (HB.out.2 p),p]
    ·rw [if_neg (fun e=>by have:=HB.out.1 e;omega),p]
   have HP0:=hide hP0
   clear hP0 NP em
   go_upto_if 125 with fail
   go_cut [] (fun wx=>Box wx gE 38 #[.int .i64 4,.int .i32 0,.int .u8 (PA.BQ rn F),.int .u8 0,.int .u8 F,.slice Av k cv,.string ⟨#[]⟩] /\Box wx gZ 38 #[.int .i64 0,.int .i32 0,.int .u8 0,.int .u8 0,.int .u8 0,.slice none 0 0,.string ⟨#[]⟩] /\wx.ownsRow w3.heap.size 3 1 (.slice Av k cv) k (Aj ps)/\Below w.heap.size w wx)
   case first=>
    rcases b with _ | _
    ·have HP1:=hide (show PA.BQ rn F=0 from HP0.out)
     go_wp2_with fail
     go_meet
     rw [HP1.out]
     exact⟨Ob.out,KV.out,HO.out,B2.out⟩
    ·have HP1:=hide (show PA.BQ rn F=63 from HP0.out)
     go_wp2_with fail
     go_meet
     rw [HP1.out]
     exact⟨by simpa using Ob.out.set 2 (.int .u8 63),KV.out.far (p:=⟨gE,2,none⟩) hEZ.symm _,CG HO.out (p:=⟨gE,2,none⟩) hne _,B2.out.setCell (p:=⟨gE,2,none⟩) (show w.heap.size<=gE by have:=HGE.out;have:=BB.out.size;omega) _⟩
   case rest=>
    obtain⟨bx,bz,ho,bw⟩:=hcut
    obtain⟨P,hP⟩: ∃P,PA.BQ rn F=P:=⟨_,rfl⟩
    rw [hP] at bx
    have HPP:=hide hP.symm
    clear hP Ob KV HO HB HP0 B2 j0 j1 j2 j3 j4 m0 m1 m2 m3 m4 m5 m6 fr
    obtain⟨m0,m1,m2,m3,m4,m5,m6⟩:=Box.seven bx
    obtain⟨z0,z1,z2,z3,z4,z5,z6⟩:=Box.seven bz
    have fr:=bx.frozen
    have fz:=bz.frozen
    have Ob:=hide bx
    have KV:=hide bz
    have HO:=hide ho
    have HW:=hide bw
    have hnz:(Value.slice Av k cv).ownBlock≠some gZ:=AP ho bz (by decide)
    have hsn:=Seen.Ct ho
    have hlz:=hzb
    have HNW:=hide (show∀A,Av=A-> ∀ad,A=some ad->w.heap.size<=ad.block from fun A e ad h=>by have h1:=Pv ho ad (e.trans h);have h2:=BB.out.size;have h3:=HGE.out;omega)
    clear bx bz ho bw
    have End: ∀(X:World) (A:Option Addr) (c n:Nat) (l:List Int),Box X gZ 38 #[.int .i64 0,.int .i32 0,.int .u8 0,.int .u8 0,.int .u8 0,.slice none 0 0,.string ⟨#[]⟩] ->Below w.heap.size w X->(l=if ps= [-1] then [] else ps)->l.length=n->(∃B et,X.ownsRow B et 1 (.slice A n c) n (Aj l)/\(Value.slice A n c).ownBlock≠some gZ)->(∀ad,A=some ad->w.heap.size<=ad.block)->
      ∀W7,(((((((X.setCell ⟨gZ,0,none⟩ (.int .i64 4)).setCell ⟨gZ,1,none⟩ (.int .i32 0)).setCell ⟨gZ,2,none⟩ (.int .u8 P)).setCell ⟨gZ,3,none⟩ (.int .u8 0)).setCell ⟨gZ,4,none⟩ (.int .u8 F)).setCell ⟨gZ,5,none⟩ (.slice A n c)).setCell ⟨gZ,6,none⟩ (.string ⟨#[]⟩))=W7->
      Box W7 gZ 38 #[.int .i64 4,.int .i32 0,.int .u8 P,.int .u8 0,.int .u8 F,.slice A n c,.string ⟨#[]⟩] /\Ee w (PA.BL kd rn fn lp lt) (.returned (.agg #[.int .i64 4,.int .i32 0,.int .u8 P,.int .u8 0,.int .u8 F,.slice A n c,.string ⟨#[]⟩])) W7:=by
     rintro X A c n l hz hb hl hn ⟨B,et,ho,hne⟩ hnw W7 rfl
     exact⟨Box.Dt hz _ _ _ _ _ _ _,FIN.out P _ A c n l HPP.out hl hn (Seen.Ct (FE ho hne _ _ _ _ _ _ _)) (Al hb (hgK▸hlz) _ _ _ _ _ _ _) hnw (Pt ho)⟩
    have END:=hide End
    clear End
    by_cases h1:k=1
    ·subst h1
     obtain⟨x,hx⟩: ∃x,ps= [x] :=by
      have:=HL.out
      rcases ps with _ | ⟨x,_ | ⟨y,l⟩⟩<;>simp at this
      exact⟨x,rfl⟩
     obtain⟨ad,u,had,_,hu,hc⟩:=hsn.at_ (k:=0) (by omega)
     subst had
     rw [hx] at hu
     have hu:Value.int .i64 x=u:=by simpa [Aj] using hu
     subst hu
     rw [show ad.add 0=ad from by simp [Addr.add]] at hc
     have HPX:=hide hx
     clear hx hsn
     by_cases hx1:x= -1
     ·have d1:(x== -1)=true:=by simpa using hx1
      have hps:ps= [-1] :=by rw [HPX.out,hx1]
      have HQ:=hide (show([] :List Int)=if ps= [-1] then [] else ps by rw [if_pos hps])
      clear hps hx1
      go_wp2_with fail
      obtain⟨b7,g7⟩:=END.out (wc.setCell ⟨gE,5,none⟩ (.slice none 0 0)) none 0 0 [] (KV.out.far (p:=⟨gE,5,none⟩) hEZ.symm _) (HW.out.setCell (p:=⟨gE,5,none⟩) (show w.heap.size<=gE by have:=HGE.out;have:=BB.out.size;omega) _) HQ.out rfl ⟨0,0,World.ownsRow_nil _ _ _ _,by simp [Value.ownBlock]⟩ (fun ad h=>by cases h) _ rfl
      obtain⟨i0',i1,i2,i3,i4,i5,i6⟩:=Box.seven b7
      exact bodyPost_ret (v:=.agg #[.int .i64 4,.int .i32 0,.int .u8 P,.int .u8 0,.int .u8 F,.slice none 0 0,.string ⟨#[]⟩]) (by simp [results,Tryd.results10,go_sem,i0',i1,i2,i3,i4,i5,i6]) rfl g7
     ·have d1:(x== -1)=false:=by simpa using hx1
      have hps: ¬ps= [-1] :=by rw [HPX.out];simpa using hx1
      have HQ:=hide (show ps=if ps= [-1] then [] else ps by rw [if_neg hps])
      clear hps hx1
      go_wp2_with fail
      obtain⟨b7,g7⟩:=END.out wc (some ad) cv 1 ps KV.out HW.out HQ.out HL.out ⟨_,_,HO.out,hnz⟩ (HNW.out _ rfl) _ rfl
      obtain⟨i0',i1,i2,i3,i4,i5,i6⟩:=Box.seven b7
      exact bodyPost_ret (v:=.agg #[.int .i64 4,.int .i32 0,.int .u8 P,.int .u8 0,.int .u8 F,.slice (some ad) 1 cv,.string ⟨#[]⟩]) (by simp [results,Tryd.results10,go_sem,i0',i1,i2,i3,i4,i5,i6]) rfl g7
    ·have d1:((k:Int)==1)=false:=by simp;omega
     have hps: ¬ps= [-1] :=fun e=>h1 (by rw [<- HL.out,e];rfl)
     have HQ:=hide (show ps=if ps= [-1] then [] else ps by rw [if_neg hps])
     clear hps h1 hsn
     go_wp2_with fail
     obtain⟨b7,g7⟩:=END.out wc Av cv k ps KV.out HW.out HQ.out HL.out ⟨_,_,HO.out,hnz⟩ (HNW.out _ rfl) _ rfl
     obtain⟨i0',i1,i2,i3,i4,i5,i6⟩:=Box.seven b7
     exact bodyPost_ret (v:=.agg #[.int .i64 4,.int .i32 0,.int .u8 P,.int .u8 0,.int .u8 F,.slice Av k cv,.string ⟨#[]⟩]) (by simp [results,Tryd.results10,go_sem,i0',i1,i2,i3,i4,i5,i6]) rfl g7
theorem Jr (kd rn fn:Int) (Ap At:Option Addr) (np cp nt ct:Nat) (w:World) (lp lt:List Int) (hk: -9223372036854775808<=kd/\kd<=9223372036854775807) (hr: -9223372036854775808<=rn/\rn<=9223372036854775807) (hf: -9223372036854775808<=fn/\fn<=9223372036854775807) (hP:Arg .i64 w Ap np cp lp) (hT:Arg .u8 w At nt ct lt):
  Calls Tryd.prog 10 #[.agg #[.int .i64 kd,.int .i64 rn,.int .i64 fn,.slice Ap np cp,.slice At nt ct]] w (Ee w (PA.BL kd rn fn lp lt)):=by
 have cs:kd%6=0\/kd%6=1\/kd%6=2\/kd%6=3\/(kd%6=4\/kd%6=5):=by omega
 rcases cs with h | h | h | h | h
 ·by_cases h3:rn.tmod 7=3
  ·exact Px kd rn fn Ap At np cp nt ct w lp lt hk hr hf h h3
  ·exact Pw kd rn fn Ap At np cp nt ct w lp lt hk hr hf h h3
 ·exact Qq kd rn fn Ap At np cp nt ct w lp lt hk hr hf h
 ·exact Qr kd rn fn Ap At np cp nt ct w lp lt hk hr hf h
 ·exact Qs kd rn fn Ap At np cp nt ct w lp lt hk hr hf h hT
 ·exact Qt kd rn fn Ap At np cp nt ct w lp lt hk hr hf h hP
end Go.Proofs.YtoaabebgmdbjeaaDoor
