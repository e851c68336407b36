/- A part of the proof: KeepEvent, OpenMany, OpenKeep. -/
import Derived.Test.YtoaabebgmdbjeaaGreatDoorRq26
import Derived.Deep.Slices
import Derived.Deep.Fields
import Derived.ChangeSame
set_option maxRecDepth 100000
set_option maxHeartbeats 16000000
set_option linter.unusedVariables false
namespace Go.Proofs.YtoaabebgmdbjeaaGreatDoor
open Go.RowKit
def JZ (w:World) (ev:PA.Ev) (e:Ending) (w':World):Prop:=
 ∃(A:Option Addr) (c:Nat),e=.returned (.agg #[.int .i64 ev.kind,.int .i32 ev.rune,.int .u8 ev.priv,.int .u8 ev.inter,.int .u8 ev.final,.slice A ev.params.length c,.string (strOfNums ev.text)])/\Seen w' w'.heap.size A ev.params.length (Br ev.params)/\Below w.heap.size w w'/\(∀ad,A=some ad->w.heap.size<=ad.block)/\ev.params.length<=c
theorem kN {w:World} {base n c:Nat} {e:TypeId} {A:Option Addr} {xs:List Value} (h:w.ownsRow base e 1 (.slice A n c) n xs):n<=c:=by
 obtain⟨A',c',hv,h,_⟩:=Da h
 cases hv
 exact h
theorem kP {w:World} {base n c:Nat} {e:TypeId} {A:Option Addr} {xs:List Value} (h:w.ownsRow base e 1 (.slice A n c) n xs): ∀ad,A=some ad->base<=ad.block:=by
 rintro ad rfl
 rcases h.2 with ⟨hv,_⟩ | ⟨g,cap,cur,hv,hb,_⟩
 ·cases hv
 ·injection hv with h1 _ _
  injection h1 with h1
  subst h1
  exact hb
theorem Gt {w w':World} {ev:PA.Ev} {e:Ending} {k r p i f:Int} (he:e=.returned (.agg #[.int .i64 k,.int .i32 r,.int .u8 p,.int .u8 i,.int .u8 f,.slice none 0 0,.string ⟨#[]⟩])) (h:ev=⟨k,r,p,i,f, [], []⟩) (hb:Below w.heap.size w w'):JZ w ev e w':=by
 subst h
 exact⟨none,0,he,Seen.IV _ _ _,hb,(fun ad h=>by cases h),Nat.le_refl _⟩
theorem kQ (kd rn fn:Int) (Ap At:Option Addr) (np cp nt ct:Nat) (w:World) (lp lt:List Int) (hk: -9223372036854775808<=kd/\kd<=9223372036854775807) (hr: -9223372036854775808<=rn/\rn<=9223372036854775807) (hf: -9223372036854775808<=fn/\fn<=9223372036854775807) (h:kd%6=0) (h3: ¬rn.tmod 7=3):
  Calls Tryz.prog 13 #[.agg #[.int .i64 kd,.int .i64 rn,.int .i64 fn,.slice Ap np cp,.slice At nt ct]] w (JZ w (PA.Cw kd rn fn lp lt)):=by
 have WK:=hide (fun w'=>BN kd 0 5 0 (by rw [show(5-0+1:Int)=6 from rfl,h];rfl) w' hk.1 hk.2 (by omega) (by omega) (by omega))
 obtain⟨u,hu,hu0,hu1⟩: ∃u:Int,0+rn%(94-0+1)=u/\0<=u/\u<=94:=⟨0+rn%95,rfl,by omega,by omega⟩
 have WR:=hide (fun w'=>BN rn 0 94 u hu w' hr.1 hr.2 (by omega) (by omega) (by omega))
 have HE:=hide (show PA.Cw kd rn fn lp lt=⟨1,32+u,0,0,0, [], []⟩ by unfold PA.Cw;rw [if_pos h,if_neg h3,show 32+rn%95=32+u by rw [<- hu,show(94-0+1:Int)=95 from rfl];omega];rfl)
 obtain⟨q,hq,hq0,hq1⟩: ∃q:Int,rn.tmod 7=q/\ -7<q/\q<7:=⟨_,rfl,by have:=Int.tmod_lt_of_pos (-rn) (show(0:Int)<7 by omega);rw [Int.neg_tmod] at this;omega,Int.tmod_lt_of_pos rn (by omega)⟩
 have d3:(q==3)=false:=by simpa using (hq▸h3)
 clear h hu h3
 go_enter Tryz.func13,Tryz.ntmps13
 go_wp2_with (first
   | (go_at_call_of 20 (Value.int IntKind.i64 5);go_must (refine(WK.out _).mono ?_);rintro e w' ⟨rfl,rfl⟩)
   | (go_at_call_of 20 (Value.int IntKind.i64 94);go_must (refine(WR.out _).mono ?_);rintro e w' ⟨rfl,rfl⟩)
   | (go_at_call_of 20 (Value.int IntKind.i64 5);go_must (refine(WF.out _).mono ?_);rintro e w' ⟨rfl,rfl⟩))
 refine bodyPost_ret (v:=.agg #[.int .i64 1,.int .i32 (32+u),.int .u8 0,.int .u8 0,.int .u8 0,.slice none 0 0,.string ⟨#[]⟩]) (by simp [results,Tryz.results13,go_sem]) rfl (Gt rfl HE.out ?_)
 exact((Below.refl _ _).alloc (Nat.le_refl _) _).alloc (by simp) _
theorem kR (kd rn fn:Int) (Ap At:Option Addr) (np cp nt ct:Nat) (w:World) (lp lt:List Int) (hk: -9223372036854775808<=kd/\kd<=9223372036854775807) (hr: -9223372036854775808<=rn/\rn<=9223372036854775807) (hf: -9223372036854775808<=fn/\fn<=9223372036854775807) (h:kd%6=0) (h3:rn.tmod 7=3):
  Calls Tryz.prog 13 #[.agg #[.int .i64 kd,.int .i64 rn,.int .i64 fn,.slice Ap np cp,.slice At nt ct]] w (JZ w (PA.Cw kd rn fn lp lt)):=by
 obtain⟨v,hv,hvn⟩: ∃v:Nat,fn%6=(v:Int)/\v<6:=⟨(fn%6).toNat,by omega,by omega⟩
 have WK:=hide (fun w'=>BN kd 0 5 0 (by rw [show(5-0+1:Int)=6 from rfl,h];rfl) w' hk.1 hk.2 (by omega) (by omega) (by omega))
 obtain⟨u,hu,hu0,hu1⟩: ∃u:Int,0+rn%(94-0+1)=u/\0<=u/\u<=94:=⟨0+rn%95,rfl,by omega,by omega⟩
 have WR:=hide (fun w'=>BN rn 0 94 u hu w' hr.1 hr.2 (by omega) (by omega) (by omega))
 have WF:=hide (fun w'=>BN fn 0 5 (v:Int) (by rw [show(5-0+1:Int)=6 from rfl,hv];omega) w' hf.1 hf.2 (by omega) (by omega) (by omega))
 have T0:(((w.alloc (.cells #[.int .i64 kd,.int .i64 rn,.int .i64 fn,.slice Ap np cp,.slice At nt ct] 32)).alloc (.cells #[.int .i64 0,.int .i32 0,.int .u8 0,.int .u8 0,.int .u8 0,.slice none 0 0,.string ⟨#[]⟩] 34)).alloc (.cells #[.int .i32 228,.int .i32 9472,.int .i32 19968,.int .i32 769,.int .i32 128512,.int .i32 128] 21)).cell? ⟨w.heap.size+2,v,none⟩=some (.int .i32 (PA.Hr.getD v 0)):=by
  rw [(Box.fresh (w:=(w.alloc (.cells #[.int .i64 kd,.int .i64 rn,.int .i64 fn,.slice Ap np cp,.slice At nt ct] 32)).alloc (.cells #[.int .i64 0,.int .i32 0,.int .u8 0,.int .u8 0,.int .u8 0,.slice none 0 0,.string ⟨#[]⟩] 34)) (t:=21) (cs:= #[.int .i32 228,.int .i32 9472,.int .i32 19968,.int .i32 769,.int .i32 128512,.int .i32 128]) (g:=w.heap.size+2) (by simp)).cell]
  obtain rfl | rfl | rfl | rfl | rfl | rfl:v=0\/v=1\/v=2\/v=3\/v=4\/v=5:=by omega
  all_goals rfl
 have HE:=hide (show PA.Cw kd rn fn lp lt=⟨1,PA.Hr.getD v 0,0,0,0, [], []⟩ by unfold PA.Cw;rw [if_pos h,if_pos h3,hv,Int.toNat_natCast];rfl)
 have v0:(0:Int)<=(v:Int):=by omega
 have v1:(v:Int)<6:=by omega
 have v2:(v:Int).toNat=v:=by simp
 generalize PA.Hr.getD v 0=x at T0 HE
 clear h hu hv
 go_enter Tryz.func13,Tryz.ntmps13
 go_wp2_with (first
   | (go_at_call_of 20 (Value.int IntKind.i64 94);go_must (refine(WR.out _).mono ?_);rintro e w' ⟨rfl,rfl⟩)
   | (go_at_call_of 20 (Value.int IntKind.i64 kd);go_must (refine(WK.out _).mono ?_);rintro e w' ⟨rfl,rfl⟩)
   | (go_at_call_of 20 (Value.int IntKind.i64 fn);go_must (refine(WF.out _).mono ?_);rintro e w' ⟨rfl,rfl⟩))
 refine bodyPost_ret (v:=.agg #[.int .i64 1,.int .i32 x,.int .u8 0,.int .u8 0,.int .u8 0,.slice none 0 0,.string ⟨#[]⟩]) (by simp [results,Tryz.results13,go_sem]) rfl (Gt rfl HE.out ?_)
 repeat(first | exact Below.refl _ _ | refine Below.drew ?_ | refine Below.alloc ?_ (by first | exact Nat.le_refl _ | (simp;done) | (simp;omega)) _)
theorem nQ (kd rn fn:Int) (Ap At:Option Addr) (np cp nt ct:Nat) (w:World) (lp lt:List Int) (hk: -9223372036854775808<=kd/\kd<=9223372036854775807) (hr: -9223372036854775808<=rn/\rn<=9223372036854775807) (hf: -9223372036854775808<=fn/\fn<=9223372036854775807) (h:kd%6=1):
  Calls Tryz.prog 13 #[.agg #[.int .i64 kd,.int .i64 rn,.int .i64 fn,.slice Ap np cp,.slice At nt ct]] w (JZ w (PA.Cw kd rn fn lp lt)):=by
 obtain⟨v,hv,hvn⟩: ∃v:Nat,fn%9=(v:Int)/\v<9:=⟨(fn%9).toNat,by omega,by omega⟩
 have WK:=hide (fun w'=>BN kd 0 5 1 (by rw [show(5-0+1:Int)=6 from rfl,h];rfl) w' hk.1 hk.2 (by omega) (by omega) (by omega))
 have WF:=hide (fun w'=>BN fn 0 8 (v:Int) (by rw [show(8-0+1:Int)=9 from rfl,hv];omega) w' hf.1 hf.2 (by omega) (by omega) (by omega))
 have WR:=WF
 have T0:(((w.alloc (.cells #[.int .i64 kd,.int .i64 rn,.int .i64 fn,.slice Ap np cp,.slice At nt ct] 32)).alloc (.cells #[.int .i64 0,.int .i32 0,.int .u8 0,.int .u8 0,.int .u8 0,.slice none 0 0,.string ⟨#[]⟩] 34)).alloc (.cells #[.int .u8 7,.int .u8 8,.int .u8 9,.int .u8 10,.int .u8 13,.int .u8 14,.int .u8 15,.int .u8 0,.int .u8 11] 5)).cell? ⟨w.heap.size+2,v,none⟩=some (.int .u8 (PA.Ht.getD v 0)):=by
  rw [(Box.fresh (w:=(w.alloc (.cells #[.int .i64 kd,.int .i64 rn,.int .i64 fn,.slice Ap np cp,.slice At nt ct] 32)).alloc (.cells #[.int .i64 0,.int .i32 0,.int .u8 0,.int .u8 0,.int .u8 0,.slice none 0 0,.string ⟨#[]⟩] 34)) (t:=5) (cs:= #[.int .u8 7,.int .u8 8,.int .u8 9,.int .u8 10,.int .u8 13,.int .u8 14,.int .u8 15,.int .u8 0,.int .u8 11]) (g:=w.heap.size+2) (by simp)).cell]
  obtain rfl | rfl | rfl | rfl | rfl | rfl | rfl | rfl | rfl:v=0\/v=1\/v=2\/v=3\/v=4\/v=5\/v=6\/v=7\/v=8:=by omega
  all_goals rfl
 have HE:=hide (show PA.Cw kd rn fn lp lt=⟨2,0,0,0,PA.Ht.getD v 0, [], []⟩ by unfold PA.Cw;rw [if_neg (by omega),if_pos h,hv,Int.toNat_natCast])
 have v0:(0:Int)<=(v:Int):=by omega
 have v1:(v:Int)<9:=by omega
 have v2:(v:Int).toNat=v:=by simp
 generalize PA.Ht.getD v 0=x at T0 HE
 clear h hv
 go_enter Tryz.func13,Tryz.ntmps13
 go_wp2_with (first
   | (go_at_call_of 20 (Value.int IntKind.i64 94);go_must (refine(WR.out _).mono ?_);rintro e w' ⟨rfl,rfl⟩)
   | (go_at_call_of 20 (Value.int IntKind.i64 kd);go_must (refine(WK.out _).mono ?_);rintro e w' ⟨rfl,rfl⟩)
   | (go_at_call_of 20 (Value.int IntKind.i64 fn);go_must (refine(WF.out _).mono ?_);rintro e w' ⟨rfl,rfl⟩))
 refine bodyPost_ret (v:=.agg #[.int .i64 2,.int .i32 0,.int .u8 0,.int .u8 0,.int .u8 x,.slice none 0 0,.string ⟨#[]⟩]) (by simp [results,Tryz.results13,go_sem]) rfl (Gt rfl HE.out ?_)
 repeat(first | exact Below.refl _ _ | refine Below.drew ?_ | refine Below.alloc ?_ (by first | exact Nat.le_refl _ | (simp;done) | (simp;omega)) _)
def JA:Array Value:= #[.int .i64 3,.int .i32 0,.int .u8 0,.int .u8 0,.int .u8 77,.slice none 0 0,.string ⟨#[]⟩,.int .i64 3,.int .i32 0,.int .u8 0,.int .u8 40,.int .u8 48,.slice none 0 0,.string ⟨#[]⟩,.int .i64 3,.int .i32 0,.int .u8 0,.int .u8 40,.int .u8 66,.slice none 0 0,.string ⟨#[]⟩,.int .i64 3,.int .i32 0,.int .u8 0,.int .u8 0,.int .u8 55,.slice none 0 0,.string ⟨#[]⟩,.int .i64 3,.int .i32 0,.int .u8 0,.int .u8 0,.int .u8 56,.slice none 0 0,.string ⟨#[]⟩,.int .i64 3,.int .i32 0,.int .u8 0,.int .u8 0,.int .u8 68,.slice none 0 0,.string ⟨#[]⟩,.int .i64 3,.int .i32 0,.int .u8 0,.int .u8 0,.int .u8 69,.slice none 0 0,.string ⟨#[]⟩,.int .i64 3,.int .i32 0,.int .u8 0,.int .u8 0,.int .u8 99,.slice none 0 0,.string ⟨#[]⟩,.int .i64 3,.int .i32 0,.int .u8 0,.int .u8 35,.int .u8 56,.slice none 0 0,.string ⟨#[]⟩,.int .i64 3,.int .i32 0,.int .u8 0,.int .u8 0,.int .u8 72,.slice none 0 0,.string ⟨#[]⟩]
theorem aJ (v:Nat) (hv:v<10):JA[v*7+0]? =some (.int .i64 3):=by
 obtain rfl | rfl | rfl | rfl | rfl | rfl | rfl | rfl | rfl | rfl:v=0\/v=1\/v=2\/v=3\/v=4\/v=5\/v=6\/v=7\/v=8\/v=9:=by omega
 all_goals rfl
theorem aK (v:Nat) (hv:v<10):JA[v*7+1]? =some (.int .i32 0):=by
 obtain rfl | rfl | rfl | rfl | rfl | rfl | rfl | rfl | rfl | rfl:v=0\/v=1\/v=2\/v=3\/v=4\/v=5\/v=6\/v=7\/v=8\/v=9:=by omega
 all_goals rfl
theorem aL (v:Nat) (hv:v<10):JA[v*7+2]? =some (.int .u8 0):=by
 obtain rfl | rfl | rfl | rfl | rfl | rfl | rfl | rfl | rfl | rfl:v=0\/v=1\/v=2\/v=3\/v=4\/v=5\/v=6\/v=7\/v=8\/v=9:=by omega
 all_goals rfl
theorem aM (v:Nat) (hv:v<10):JA[v*7+3]? =some (.int .u8 (PA.Eu.getD v (0,0)).1):=by
 obtain rfl | rfl | rfl | rfl | rfl | rfl | rfl | rfl | rfl | rfl:v=0\/v=1\/v=2\/v=3\/v=4\/v=5\/v=6\/v=7\/v=8\/v=9:=by omega
 all_goals rfl
theorem aN (v:Nat) (hv:v<10):JA[v*7+4]? =some (.int .u8 (PA.Eu.getD v (0,0)).2):=by
 obtain rfl | rfl | rfl | rfl | rfl | rfl | rfl | rfl | rfl | rfl:v=0\/v=1\/v=2\/v=3\/v=4\/v=5\/v=6\/v=7\/v=8\/v=9:=by omega
 all_goals rfl
theorem aO (v:Nat) (hv:v<10):JA[v*7+5]? =some (.slice none 0 0):=by
 obtain rfl | rfl | rfl | rfl | rfl | rfl | rfl | rfl | rfl | rfl:v=0\/v=1\/v=2\/v=3\/v=4\/v=5\/v=6\/v=7\/v=8\/v=9:=by omega
 all_goals rfl
theorem aP (v:Nat) (hv:v<10):JA[v*7+6]? =some (.string ⟨#[]⟩):=by
 obtain rfl | rfl | rfl | rfl | rfl | rfl | rfl | rfl | rfl | rfl:v=0\/v=1\/v=2\/v=3\/v=4\/v=5\/v=6\/v=7\/v=8\/v=9:=by omega
 all_goals rfl
theorem nR (kd rn fn:Int) (Ap At:Option Addr) (np cp nt ct:Nat) (w:World) (lp lt:List Int) (hk: -9223372036854775808<=kd/\kd<=9223372036854775807) (hr: -9223372036854775808<=rn/\rn<=9223372036854775807) (hf: -9223372036854775808<=fn/\fn<=9223372036854775807) (h:kd%6=2):
  Calls Tryz.prog 13 #[.agg #[.int .i64 kd,.int .i64 rn,.int .i64 fn,.slice Ap np cp,.slice At nt ct]] w (JZ w (PA.Cw kd rn fn lp lt)):=by
 obtain⟨v,hv,hvn⟩: ∃v:Nat,fn%10=(v:Int)/\v<10:=⟨(fn%10).toNat,by omega,by omega⟩
 have WK:=hide (fun w'=>BN kd 0 5 2 (by rw [show(5-0+1:Int)=6 from rfl,h];rfl) w' hk.1 hk.2 (by omega) (by omega) (by omega))
 have WF:=hide (fun w'=>BN fn 0 9 (v:Int) (by rw [show(9-0+1:Int)=10 from rfl,hv];omega) w' hf.1 hf.2 (by omega) (by omega) (by omega))
 have HE:=hide (show PA.Cw kd rn fn lp lt=⟨3,0,0,(PA.Eu.getD v (0,0)).1,(PA.Eu.getD v (0,0)).2, [], []⟩ by unfold PA.Cw;rw [if_neg (by omega),if_neg (by omega),if_pos h,hv,Int.toNat_natCast])
 have v0:(0:Int)<=(v:Int):=by omega
 have v1:(v:Int)<10:=by omega
 have v2:(v:Int).toNat=v:=by simp
 have HW:=hide (show∀W,(((w.alloc (.cells #[.int .i64 kd,.int .i64 rn,.int .i64 fn,.slice Ap np cp,.slice At nt ct] 32)).alloc (.cells #[.int .i64 0,.int .i32 0,.int .u8 0,.int .u8 0,.int .u8 0,.slice none 0 0,.string ⟨#[]⟩] 34)).alloc (.cells #[.int .i64 3,.int .i32 0,.int .u8 0,.int .u8 0,.int .u8 77,.slice none 0 0,.string ⟨#[]⟩,.int .i64 3,.int .i32 0,.int .u8 0,.int .u8 40,.int .u8 48,.slice none 0 0,.string ⟨#[]⟩,.int .i64 3,.int .i32 0,.int .u8 0,.int .u8 40,.int .u8 66,.slice none 0 0,.string ⟨#[]⟩,.int .i64 3,.int .i32 0,.int .u8 0,.int .u8 0,.int .u8 55,.slice none 0 0,.string ⟨#[]⟩,.int .i64 3,.int .i32 0,.int .u8 0,.int .u8 0,.int .u8 56,.slice none 0 0,.string ⟨#[]⟩,.int .i64 3,.int .i32 0,.int .u8 0,.int .u8 0,.int .u8 68,.slice none 0 0,.string ⟨#[]⟩,.int .i64 3,.int .i32 0,.int .u8 0,.int .u8 0,.int .u8 69,.slice none 0 0,.string ⟨#[]⟩,.int .i64 3,.int .i32 0,.int .u8 0,.int .u8 0,.int .u8 99,.slice none 0 0,.string ⟨#[]⟩,.int .i64 3,.int .i32 0,.int .u8 0,.int .u8 35,.int .u8 56,.slice none 0 0,.string ⟨#[]⟩,.int .i64 3,.int .i32 0,.int .u8 0,.int .u8 0,.int .u8 72,.slice none 0 0,.string ⟨#[]⟩] 34))=W->Box W (w.heap.size+2) 34 JA/\Box W (w.heap.size+1) 34 #[.int .i64 0,.int .i32 0,.int .u8 0,.int .u8 0,.int .u8 0,.slice none 0 0,.string ⟨#[]⟩] /\Below w.heap.size w W from by
  rintro W rfl
  refine⟨Box.fresh (by simp),(Box.fresh (by simp)).alloc _,?_⟩
  exact(((Below.refl _ _).alloc (Nat.le_refl _) _).alloc (by simp) _).alloc (by simp;omega) _)
 clear h hv
 go_enter Tryz.func13,Tryz.ntmps13
 go_wp2_with (first
   | (go_at_call_of 20 (Value.int IntKind.i64 kd);go_must (refine(WK.out _).mono ?_);rintro e w' ⟨rfl,rfl⟩)
   | (go_at_call_of 20 (Value.int IntKind.i64 fn);go_must (refine(WF.out _).mono ?_);rintro e w' ⟨rfl,rfl⟩;(generalize hWW:(((w.alloc (.cells #[.int .i64 kd,.int .i64 rn,.int .i64 fn,.slice Ap np cp,.slice At nt ct] 32)).alloc (.cells #[.int .i64 0,.int .i32 0,.int .u8 0,.int .u8 0,.int .u8 0,.slice none 0 0,.string ⟨#[]⟩] 34)).alloc (.cells #[.int .i64 3,.int .i32 0,.int .u8 0,.int .u8 0,.int .u8 77,.slice none 0 0,.string ⟨#[]⟩,.int .i64 3,.int .i32 0,.int .u8 0,.int .u8 40,.int .u8 48,.slice none 0 0,.string ⟨#[]⟩,.int .i64 3,.int .i32 0,.int .u8 0,.int .u8 40,.int .u8 66,.slice none 0 0,.string ⟨#[]⟩,.int .i64 3,.int .i32 0,.int .u8 0,.int .u8 0,.int .u8 55,.slice none 0 0,.string ⟨#[]⟩,.int .i64 3,.int .i32 0,.int .u8 0,.int .u8 0,.int .u8 56,.slice none 0 0,.string ⟨#[]⟩,.int .i64 3,.int .i32 0,.int .u8 0,.int .u8 0,.int .u8 68,.slice none 0 0,.string ⟨#[]⟩,.int .i64 3,.int .i32 0,.int .u8 0,.int .u8 0,.int .u8 69,.slice none 0 0,.string ⟨#[]⟩,.int .i64 3,.int .i32 0,.int .u8 0,.int .u8 0,.int .u8 99,.slice none 0 0,.string ⟨#[]⟩,.int .i64 3,.int .i32 0,.int .u8 0,.int .u8 35,.int .u8 56,.slice none 0 0,.string ⟨#[]⟩,.int .i64 3,.int .i32 0,.int .u8 0,.int .u8 0,.int .u8 72,.slice none 0 0,.string ⟨#[]⟩] 34))=W);(obtain⟨bt,bz,bl⟩:=HW.out W hWW);clear hWW;(have T0:=(bt.cell (v*7+0)).trans (aJ v hvn));(have T1:=(bt.cell (v*7+1)).trans (aK v hvn));(have T2:=(bt.cell (v*7+2)).trans (aL v hvn));(have T3:=(bt.cell (v*7+3)).trans (aM v hvn));(have T4:=(bt.cell (v*7+4)).trans (aN v hvn));(have T5:=(bt.cell (v*7+5)).trans (aO v hvn));(have T6:=(bt.cell (v*7+6)).trans (aP v hvn));simp only [Nat.add_zero] at T0;clear bt;generalize (PA.Eu.getD v (0,0)).1=x at T3 HE;generalize (PA.Eu.getD v (0,0)).2=y at T4 HE;(have fr:=bz.frozen);(obtain⟨k0,k1,k2,k3,k4,k5,k6⟩:=Box.seven bz)))
 obtain⟨j0,j1,j2,j3,j4,j5,j6⟩:=Box.seven (Box.Gv bz (.int .i64 3) (.int .i32 0) (.int .u8 0) (.int .u8 x) (.int .u8 y) (.slice none 0 0) (.string ⟨#[]⟩))
 have b7:=Bt bl (show w.heap.size<=w.heap.size+1 by omega) (.int .i64 3) (.int .i32 0) (.int .u8 0) (.int .u8 x) (.int .u8 y) (.slice none 0 0) (.string ⟨#[]⟩)
 generalize (((((((W.setCell ⟨w.heap.size+1,0,none⟩ (.int .i64 3)).setCell ⟨w.heap.size+1,1,none⟩ (.int .i32 0)).setCell ⟨w.heap.size+1,2,none⟩ (.int .u8 0)).setCell ⟨w.heap.size+1,3,none⟩ (.int .u8 x)).setCell ⟨w.heap.size+1,4,none⟩ (.int .u8 y)).setCell ⟨w.heap.size+1,5,none⟩ (.slice none 0 0)).setCell ⟨w.heap.size+1,6,none⟩ (.string ⟨#[]⟩))=W7 at*
 refine bodyPost_ret (v:=.agg #[.int .i64 3,.int .i32 0,.int .u8 0,.int .u8 x,.int .u8 y,.slice none 0 0,.string ⟨#[]⟩]) (by simp [results,Tryz.results13,go_sem,j0,j1,j2,j3,j4,j5,j6]) rfl (Gt rfl HE.out b7)
end Go.Proofs.YtoaabebgmdbjeaaGreatDoor
namespace Go.Proofs.YtoaabebgmdbjeaaGreatDoor
open Go.RowKit
theorem Box.five {w:World} {g:Nat} {t:TypeId} {a b c d e:Value} (x:Box w g t #[a,b,c,d,e]):
  w.cell? ⟨g,0,none⟩=some a/\w.cell? ⟨g,1,none⟩=some b/\w.cell? ⟨g,2,none⟩=some c/\w.cell? ⟨g,3,none⟩=some d/\w.cell? ⟨g,4,none⟩=some e:=
 ⟨x.cell 0,x.cell 1,x.cell 2,x.cell 3,x.cell 4⟩
def EC (t:List Int) (k:Nat):List Int:=(t.take k).map fun x=>32+x%224
theorem La {t:List Int} {k:Nat} {x:Int} (hx:t[k]? =some x):EC t (k+1)=EC t k++ [32+x%224] :=by
 unfold EC
 rw [List.take_add_one,hx]
 simp
theorem JB {t:List Int} {k:Nat} (h:k=20\/k=t.length) (h20:k<=20) (hl:k<=t.length):EC t k=PA.Ew t:=by
 unfold EC PA.Ew
 rcases h with rfl | rfl
 ·rfl
 ·rw [List.take_of_length_le (Nat.le_refl _),List.take_of_length_le (by omega)]
theorem nS (kd rn fn:Int) (Ap At:Option Addr) (np cp nt ct:Nat) (w:World) (lp lt:List Int) (hk: -9223372036854775808<=kd/\kd<=9223372036854775807) (hr: -9223372036854775808<=rn/\rn<=9223372036854775807) (hf: -9223372036854775808<=fn/\fn<=9223372036854775807) (h:kd%6=3) (hT:Arg .u8 w At nt ct lt):
  Calls Tryz.prog 13 #[.agg #[.int .i64 kd,.int .i64 rn,.int .i64 fn,.slice Ap np cp,.slice At nt ct]] w (JZ w (PA.Cw kd rn fn lp lt)):=by
 obtain⟨i0,hi,hz0,hz1,hz2⟩:=info_parts Dy
 have WK:=hide (fun w'=>BN kd 0 5 3 (by rw [show(5-0+1:Int)=6 from rfl,h];rfl) w' hk.1 hk.2 (by omega) (by omega) (by omega))
 have HE:=hide (show PA.Cw kd rn fn lp lt=⟨5,0,0,0,0, [],PA.Ew lt⟩ by unfold PA.Cw;rw [if_neg (by omega),if_neg (by omega),if_neg (by omega),if_pos h])
 have HA:=hide hT
 have hcap:=hT.cap
 have hle:=hT.le
 unfold maxLen at hcap
 clear h hT
 go_enter Tryz.func13,Tryz.ntmps13
 go_upto_region 1 with fail
 have bK:=(Box.new w 32 #[.int .i64 kd,.int .i64 rn,.int .i64 fn,.slice Ap np cp,.slice At nt ct]).alloc (.cells #[.int .i64 0,.int .i32 0,.int .u8 0,.int .u8 0,.int .u8 0,.slice none 0 0,.string ⟨#[]⟩] 34)
 have bZ:=Box.fresh (w:=w.alloc (.cells #[.int .i64 kd,.int .i64 rn,.int .i64 fn,.slice Ap np cp,.slice At nt ct] 32)) (t:=34) (cs:= #[.int .i64 0,.int .i32 0,.int .u8 0,.int .u8 0,.int .u8 0,.slice none 0 0,.string ⟨#[]⟩]) (g:=w.heap.size+1) (by simp)
 have bb:Below w.heap.size w ((w.alloc (.cells #[.int .i64 kd,.int .i64 rn,.int .i64 fn,.slice Ap np cp,.slice At nt ct] 32)).alloc (.cells #[.int .i64 0,.int .i32 0,.int .u8 0,.int .u8 0,.int .u8 0,.slice none 0 0,.string ⟨#[]⟩] 34)):=((Below.refl _ _).alloc (Nat.le_refl _) _).alloc (by simp) _
 generalize (w.alloc (.cells #[.int .i64 kd,.int .i64 rn,.int .i64 fn,.slice Ap np cp,.slice At nt ct] 32)).alloc (.cells #[.int .i64 0,.int .i32 0,.int .u8 0,.int .u8 0,.int .u8 0,.slice none 0 0,.string ⟨#[]⟩] 34)=w2 at bK bZ bb⊢
 have HAS:=hide ((HA.out.seen.below bb).more bb.size)
 have BB:=hide bb
 have BK:=hide bK
 have BZ:=hide bZ
 have hzb:w.heap.size<=w.heap.size+1:=by omega
 generalize w.heap.size+1=gZ at BZ hzb⊢
 generalize hgK:w.heap.size=gK at BK⊢
 rw [hgK] at hzb
 obtain⟨k0,k1,k2,k3,k4⟩:=Box.five BK.out
 clear bb bK bZ
 go_wp2_with (go_at_call 20;go_must (refine(WK.out _).mono ?_);rintro e w' ⟨rfl,rfl⟩)
 go_loopw [5,6] (fun u i wr=> ∃k:Nat,k<=20/\k<=nt/\i=.int .i64 k/\wr.ownsRow w2.heap.size 5 1 u k (u8s (EC lt k))/\Below w2.heap.size w2 wr) (fun _ i _=>20-(intOf i).toNat)
 case atStart=>exact⟨0,by omega,Nat.zero_le _,rfl,World.ownsRow_nil _ _ _ _,Below.refl _ _⟩
 case round=>
  obtain⟨k,hk20,hkn,rfl,ho,b0⟩:=hrel
  obtain⟨j0,j1,j2,j3,j4⟩:=Box.five (BK.out.below b0 BK.out.lt)
  clear k0 k1 k2 k3 k4
  have cs:nt<=k\/(k<nt/\20<=k)\/(k<nt/\k<20):=by omega
  rcases cs with a | ⟨a,a'⟩ | ⟨a,a'⟩
  ·have HX:=hide (JB (t:=lt) (k:=k) (by have:=HA.out.len;omega) hk20 (by have:=HA.out.len;omega))
   rw [HX.out] at ho
   obtain⟨Ab,cb,rfl,_⟩:=Da ho
   have cv:=Fy (c:=cb) (Seen.CY ho)
   have bz:=BZ.out.below b0 BZ.out.lt
   have fr:=bz.frozen
   obtain⟨i1,i2,i3,i4,i5,i6,i7⟩:=Box.seven bz
   generalize hs:strOfNums (PA.Ew lt)=s at cv
   have HSS:=hide hs
   clear hs ho
   go_wp2_with fail
   obtain⟨m0,m1,m2,m3,m4,m5,m6⟩:=Box.seven (Box.Gv bz (.int .i64 5) (.int .i32 0) (.int .u8 0) (.int .u8 0) (.int .u8 0) (.slice none 0 0) (.string s))
   have b7:=Bt (BB.out.trans (b0.mono (hgK▸BB.out.size))) (hgK▸hzb) (.int .i64 5) (.int .i32 0) (.int .u8 0) (.int .u8 0) (.int .u8 0) (.slice none 0 0) (.string s)
   generalize (((((((wr.setCell ⟨gZ,0,none⟩ (.int .i64 5)).setCell ⟨gZ,1,none⟩ (.int .i32 0)).setCell ⟨gZ,2,none⟩ (.int .u8 0)).setCell ⟨gZ,3,none⟩ (.int .u8 0)).setCell ⟨gZ,4,none⟩ (.int .u8 0)).setCell ⟨gZ,5,none⟩ (.slice none 0 0)).setCell ⟨gZ,6,none⟩ (.string s))=W7 at*
   refine bodyPost_ret (v:=.agg #[.int .i64 5,.int .i32 0,.int .u8 0,.int .u8 0,.int .u8 0,.slice none 0 0,.string s]) (by simp [results,Tryz.results13,go_sem,m0,m1,m2,m3,m4,m5,m6]) rfl ?_
   rw [HE.out]
   exact⟨none,0,by rw [<- HSS.out];rfl,Seen.IV _ _ _,b7,(fun ad h=>by cases h),Nat.le_refl _⟩
  ·have HX:=hide (JB (t:=lt) (k:=k) (by have:=HA.out.len;omega) hk20 (by have:=HA.out.len;omega))
   rw [HX.out] at ho
   obtain⟨Ab,cb,rfl,_⟩:=Da ho
   have cv:=Fy (c:=cb) (Seen.CY ho)
   have bz:=BZ.out.below b0 BZ.out.lt
   have fr:=bz.frozen
   obtain⟨i1,i2,i3,i4,i5,i6,i7⟩:=Box.seven bz
   generalize hs:strOfNums (PA.Ew lt)=s at cv
   have HSS:=hide hs
   clear hs ho
   go_wp2_with fail
   obtain⟨m0,m1,m2,m3,m4,m5,m6⟩:=Box.seven (Box.Gv bz (.int .i64 5) (.int .i32 0) (.int .u8 0) (.int .u8 0) (.int .u8 0) (.slice none 0 0) (.string s))
   have b7:=Bt (BB.out.trans (b0.mono (hgK▸BB.out.size))) (hgK▸hzb) (.int .i64 5) (.int .i32 0) (.int .u8 0) (.int .u8 0) (.int .u8 0) (.slice none 0 0) (.string s)
   generalize (((((((wr.setCell ⟨gZ,0,none⟩ (.int .i64 5)).setCell ⟨gZ,1,none⟩ (.int .i32 0)).setCell ⟨gZ,2,none⟩ (.int .u8 0)).setCell ⟨gZ,3,none⟩ (.int .u8 0)).setCell ⟨gZ,4,none⟩ (.int .u8 0)).setCell ⟨gZ,5,none⟩ (.slice none 0 0)).setCell ⟨gZ,6,none⟩ (.string s))=W7 at*
   refine bodyPost_ret (v:=.agg #[.int .i64 5,.int .i32 0,.int .u8 0,.int .u8 0,.int .u8 0,.slice none 0 0,.string s]) (by simp [results,Tryz.results13,go_sem,m0,m1,m2,m3,m4,m5,m6]) rfl ?_
   rw [HE.out]
   exact⟨none,0,by rw [<- HSS.out];rfl,Seen.IV _ _ _,b7,(fun ad h=>by cases h),Nat.le_refl _⟩
  ·obtain⟨ad,u,rfl,_,hu,hc⟩:=(HAS.out.below b0).at_ a
   rw [List.getElem?_map] at hu
   obtain⟨x,hx,rfl⟩:=Option.map_eq_some_iff.1 hu
   have hxr:=bounds_u8 (HA.out.wf x (List.mem_of_getElem? hx))
   obtain⟨y,hy,hy0,hy1⟩: ∃y:Int,32+x%(255-32+1)=y/\32<=y/\y<=255:=⟨32+x%224,rfl,by omega,by omega⟩
   have WI:=hide (fun w'=>BN x 32 255 y hy w' (by omega) (by omega) (by omega) (by omega) (by omega))
   have HS:=hide (show EC lt (k+1)=EC lt k++ [y] by rw [La hx, <- hy];rfl)
   clear hu hx hy
   go_wp2_with (first
    | (go_at_call 20;go_must (refine(WI.out _).mono ?_);rintro e w' ⟨rfl,rfl⟩)
    | (at_builtin;go_must (refine Eh rfl (.tmp 72) (.tmp 81) 30 rfl w2.heap.size 5 i0 _ 1 Tryz.underlying30 hi hz0 hz1 hz2 rfl u5 _ _ rfl ho _ _ _ rfl rfl rfl (by omega) (by omega) b0.size ?_);intro v' w1 hown1 hg1 hm1))
   go_roundw
   case rel=>exact⟨k+1,by omega,by omega,by go_num,by rw [HS.out];simpa [u8s] using hown1,b0.grown hg1 b0.size (fun g hg=>(ho.lt g hg).1)⟩
   case measure=>simp [intOf];omega
end Go.Proofs.YtoaabebgmdbjeaaGreatDoor
namespace Go.Proofs.YtoaabebgmdbjeaaGreatDoor
open Go.RowKit
def Cx (t:List Int) (k:Nat):List Int:=(t.take k).map fun x=> -1+x%62
theorem Kc {t:List Int} {k:Nat} {x:Int} (hx:t[k]? =some x):Cx t (k+1)=Cx t k++ [-1+x%62] :=by
 unfold Cx
 rw [List.take_add_one,hx]
 simp
theorem K4 {t:List Int} {k:Nat} (h:k=5\/k=t.length) (h20:k<=5) (hl:k<=t.length):Cx t k=PA.DY t:=by
 unfold Cx PA.DY
 rcases h with rfl | rfl
 ·rfl
 ·rw [List.take_of_length_le (Nat.le_refl _),List.take_of_length_le (by omega)]
def Making (w2:World) (gE B:Nat) (F:Int) (lp:List Int) (np k:Nat) (wr:World):Prop:=
 ∃v',Box wr gE 34 #[.int .i64 4,.int .i32 0,.int .u8 0,.int .u8 0,.int .u8 F,v',.string ⟨#[]⟩] /\wr.ownsRow B 3 1 v' k (Br (Cx lp k))/\Below w2.heap.size w2 wr/\B<=wr.heap.size/\k<=5/\k<=np
def gW (w2:World) (gE B:Nat) (F:Int) (lp:List Int) (np:Nat) (wr:World):Prop:= ∃k,Making w2 gE B F lp np k wr/\(k=5\/k=np)
def finals:ByteArray:=⟨#[72,65,66,67,68,71,100,74,75,76,77,80,88,64,83,84,114,109,104,108,110,99,115]⟩
theorem X5 (v:Nat) (hv:v<23): ∀h:v<finals.size,((finals[v]'h).toNat:Int)=PA.DX.getD v 0:=by
 obtain rfl | rfl | rfl | rfl | rfl | rfl | rfl | rfl | rfl | rfl | rfl | rfl | rfl | rfl | rfl | rfl | rfl | rfl | rfl | rfl | rfl | rfl | rfl:v=0\/v=1\/v=2\/v=3\/v=4\/v=5\/v=6\/v=7\/v=8\/v=9\/v=10\/v=11\/v=12\/v=13\/v=14\/v=15\/v=16\/v=17\/v=18\/v=19\/v=20\/v=21\/v=22:=by omega
 all_goals (intro h;rfl)
theorem nU (kd rn fn:Int) (Ap At:Option Addr) (np cp nt ct:Nat) (w:World) (lp lt:List Int) (hk: -9223372036854775808<=kd/\kd<=9223372036854775807) (hr: -9223372036854775808<=rn/\rn<=9223372036854775807) (hf: -9223372036854775808<=fn/\fn<=9223372036854775807) (h:kd%6=4\/kd%6=5) (hP:Arg .i64 w Ap np cp lp):
  Calls Tryz.prog 13 #[.agg #[.int .i64 kd,.int .i64 rn,.int .i64 fn,.slice Ap np cp,.slice At nt ct]] w (JZ w (PA.Cw kd rn fn lp lt)):=by
 obtain⟨i0,hi,hz0,hz1,hz2⟩:=info_parts Qs
 obtain⟨kv,hkv,hkv4,hkv5⟩: ∃kv:Int,0+kd%(5-0+1)=kv/\4<=kv/\kv<=5:=⟨0+kd%6,rfl,by omega,by omega⟩
 have WK:=hide (fun w'=>BN kd 0 5 kv hkv w' hk.1 hk.2 (by omega) (by omega) (by omega))
 obtain⟨v,hv,hvn⟩: ∃v:Nat,fn%23=(v:Int)/\v<23:=⟨(fn%23).toNat,by omega,by omega⟩
 have WF:=hide (fun w'=>BN fn 0 22 (v:Int) (by rw [show(22-0+1:Int)=23 from rfl,hv];omega) w' hf.1 hf.2 (by omega) (by omega) (by omega))
 have hfin:=X5 v hvn
 have hfb:=PA.KZ fn
 rw [hv,Int.toNat_natCast] at hfb
 have HE:=hide (show PA.Cw kd rn fn lp lt=⟨4,0,PA.DC rn (PA.DX.getD v 0),0,PA.DX.getD v 0,if PA.DY lp= [-1] then [] else PA.DY lp, []⟩ by unfold PA.Cw;rw [if_neg (by omega),if_neg (by omega),if_neg (by omega),if_neg (by omega),hv,Int.toNat_natCast])
 generalize PA.DX.getD v 0=F at hfin HE hfb
 have HA:=hide hP
 have hcap:=hP.cap
 have hle:=hP.le
 unfold maxLen at hcap
 have v0:(0:Int)<=(v:Int):=by omega
 have v1:(v:Int)<23:=by omega
 have d0:(kv==0)=false:=by simp;omega
 have d1:(kv==1)=false:=by simp;omega
 have d2:(kv==2)=false:=by simp;omega
 have d3:(kv==3)=false:=by simp;omega
 clear h hP hkv hv hkv4 hkv5
 go_enter Tryz.func13,Tryz.ntmps13
 go_upto_region 1 with fail
 have bK:=(Box.new w 32 #[.int .i64 kd,.int .i64 rn,.int .i64 fn,.slice Ap np cp,.slice At nt ct]).alloc (.cells #[.int .i64 0,.int .i32 0,.int .u8 0,.int .u8 0,.int .u8 0,.slice none 0 0,.string ⟨#[]⟩] 34)
 have bZ:=Box.fresh (w:=w.alloc (.cells #[.int .i64 kd,.int .i64 rn,.int .i64 fn,.slice Ap np cp,.slice At nt ct] 32)) (t:=34) (cs:= #[.int .i64 0,.int .i32 0,.int .u8 0,.int .u8 0,.int .u8 0,.slice none 0 0,.string ⟨#[]⟩]) (g:=w.heap.size+1) (by simp)
 have bb:Below w.heap.size w ((w.alloc (.cells #[.int .i64 kd,.int .i64 rn,.int .i64 fn,.slice Ap np cp,.slice At nt ct] 32)).alloc (.cells #[.int .i64 0,.int .i32 0,.int .u8 0,.int .u8 0,.int .u8 0,.slice none 0 0,.string ⟨#[]⟩] 34)):=((Below.refl _ _).alloc (Nat.le_refl _) _).alloc (by simp) _
 generalize (w.alloc (.cells #[.int .i64 kd,.int .i64 rn,.int .i64 fn,.slice Ap np cp,.slice At nt ct] 32)).alloc (.cells #[.int .i64 0,.int .i32 0,.int .u8 0,.int .u8 0,.int .u8 0,.slice none 0 0,.string ⟨#[]⟩] 34)=w2 at bK bZ bb⊢
 have HAS:=hide ((HA.out.seen.below bb).more bb.size)
 have BB:=hide bb
 have BK:=hide bK
 have BZ:=hide bZ
 have hzb:w.heap.size<=w.heap.size+1:=by omega
 generalize w.heap.size+1=gZ at BZ hzb⊢
 generalize hgK:w.heap.size=gK at BK⊢
 rw [hgK] at hzb
 obtain⟨k0,k1,k2,k3,k4⟩:=Box.five BK.out
 clear bb bK bZ
 unfold finals at hfin
 go_upto_region 20 with (first
  | (go_at_call_of 20 (Value.int IntKind.i64 kd);go_must (refine(WK.out _).mono ?_);rintro e w' ⟨rfl,rfl⟩)
  | (go_at_call_of 20 (Value.int IntKind.i64 fn);go_must (refine(WF.out _).mono ?_);rintro e w' ⟨rfl,rfl⟩))
 have bx:=Box.new w2 34 #[.int .i64 4,.int .i32 0,.int .u8 0,.int .u8 0,.int .u8 F,.slice none 0 0,.string ⟨#[]⟩]
 have b23:Below w2.heap.size w2 (w2.alloc (.cells #[.int .i64 4,.int .i32 0,.int .u8 0,.int .u8 0,.int .u8 F,.slice none 0 0,.string ⟨#[]⟩] 34)):=(Below.refl _ _).alloc (Nat.le_refl _) _
 have nV:(w2.alloc (.cells #[.int .i64 4,.int .i32 0,.int .u8 0,.int .u8 0,.int .u8 F,.slice none 0 0,.string ⟨#[]⟩] 34)).heap.size=w2.heap.size+1:=by simp
 generalize w2.alloc (.cells #[.int .i64 4,.int .i32 0,.int .u8 0,.int .u8 0,.int .u8 F,.slice none 0 0,.string ⟨#[]⟩] 34)=w3 at bx b23 nV⊢
 have hEB:w2.heap.size<w3.heap.size:=by omega
 obtain⟨gE,hgE⟩: ∃gE,w2.heap.size=gE:=⟨_,rfl⟩
 have HGE:=hide hgE
 rw [hgE] at bx hEB
 rw [hgE]
 have HB3:=hide b23
 have HBX:=hide bx
 clear nV hgE b23 bx hfin d0 d1 d2 d3 k0 k1 k2 k3 k4
 go_upto_block 3 with fail
 go_cut [] (fun wx=>gW w2 gE w3.heap.size F lp np wx)
 case first=>
  go_wp2_with fail
  go_loopw [8] (fun i wr=> ∃k:Nat,i=.int .i64 k/\Making w2 gE w3.heap.size F lp np k wr) (fun i _=>5-(intOf i).toNat)
  case atStart=>exact⟨0,rfl,_,HBX.out,World.ownsRow_nil _ _ _ _,HB3.out,Nat.le_refl _,by omega,Nat.zero_le _⟩
  case round=>
   obtain⟨k,rfl,v',bx,ho,b2,hB,hk5,hkn⟩:=hrel
   obtain⟨Av,cv,rfl,_⟩:=Da ho
   have bk:=BK.out.below b2 BK.out.lt
   obtain⟨j0,j1,j2,j3,j4⟩:=Box.five bk
   obtain⟨m0,m1,m2,m3,m4,m5,m6⟩:=Box.seven bx
   have fr:=bx.frozen
   have cs:np<=k\/(k<np/\5<=k)\/(k<np/\k<5):=by omega
   rcases cs with a | ⟨a,a'⟩ | ⟨a,a'⟩
   ·go_wp2_with fail
    go_meet
    exact⟨k,⟨_,bx,ho,b2,hB,hk5,hkn⟩,by omega⟩
   ·go_wp2_with fail
    go_meet
    exact⟨k,⟨_,bx,ho,b2,hB,hk5,hkn⟩,by omega⟩
   ·obtain⟨ad,u,rfl,_,hu,hc⟩:=(HAS.out.below b2).at_ a
    rw [List.getElem?_map] at hu
    obtain⟨x,hx,rfl⟩:=Option.map_eq_some_iff.1 hu
    have hxr:=bounds_i64 (HA.out.wf x (List.mem_of_getElem? hx))
    obtain⟨y,hy,hy0,hy1⟩: ∃y:Int, -1+x%(60- -1+1)=y/\ -1<=y/\y<=60:=⟨-1+x%62,rfl,by omega,by omega⟩
    have WI:=hide (fun w'=>BN x (-1) 60 y hy w' hxr.1 hxr.2 (by omega) (by omega) (by omega))
    have HS:=hide (show Cx lp (k+1)=Cx lp k++ [y] by rw [Kc hx, <- hy];rfl)
    have HBx:=hide bx
    have HO:=hide ho
    have hne:(Value.slice Av k cv).ownBlock≠some gE:=Ac ho bx (by decide)
    have m5o: ∀o,(wr.alloc o).cell? ⟨gE,5,none⟩=some (.slice Av k cv):=fun o=>(World.cell?_alloc_lt wr o ⟨gE,5,none⟩ bx.lt).trans m5
    clear hu hx hy
    go_wp2_with fail
    go_region_law (first
     | (go_simp;go_at_call 20;refine(WI.out _).mono ?_;rintro e w' ⟨rfl,rfl⟩)
     | (refine EF (by rfl) (.tmp 102) (.tmp 109) 22 (by rfl) w3.heap.size 3 i0 _ 8 Tryz.underlying22 hi hz0 hz1 hz2 rfl (.slice Av k cv) k (Br (Cx lp k)) (by rfl) (D5 (Ba HO.out (.cells #[.int .i64 y] 3))) (wr.heap.size+1) (some ⟨wr.heap.size,0,none⟩) 1 1 [.int .i64 y] (by rfl) (Seen.fresh (t:=3) (cs:= #[.int .i64 y]) rfl rfl rfl rfl).drew (by simp [Value.oneCell']) (by omega) (by omega) (by simp;omega) ?_;intro v1 w1 hown1 hg1 hm1;(obtain⟨Aw,cw,rfl,_⟩:=Da hown1);have bx1:=(HBx.out.alloc (.cells #[.int .i64 y] 3)).drew.grown hg1 (fun e=>hne e.symm);have fr1:=bx1.frozen;obtain⟨q0,q1,q2,q3,q4,q5,q6⟩:=Box.seven bx1))
    all_goals
     have hq1:wr.heap.size<=w1.heap.size:=Nat.le_trans (show wr.heap.size<=(wr.alloc (.cells #[.int .i64 y] 3)).drew.heap.size by simp [World.drew]) hg1.size
     have b21:Below w2.heap.size w2 w1:=(b2.alloc b2.size (.cells #[.int .i64 y] 3)).drew.trans (Db hg1 (by have:=b2.size;simp;omega) (fun g hg=>by have:=(HO.out.lt g hg).1;have:=HGE.out;omega))
     have b22:=b21.setCell (p:=⟨gE,5,none⟩) (show w2.heap.size<=gE by have:=HGE.out;omega) (.slice Aw (k+1) cw)
     have bx2:Box (w1.setCell ⟨gE,5,none⟩ (.slice Aw (k+1) cw)) gE 34 #[.int .i64 4,.int .i32 0,.int .u8 0,.int .u8 0,.int .u8 F,.slice Aw (k+1) cw,.string ⟨#[]⟩] :=by simpa using bx1.set 5 (.slice Aw (k+1) cw)
     have ow2:=Dc hown1 (p:=⟨gE,5,none⟩) (Ac hown1 bx1 (by decide)) (.slice Aw (k+1) cw)
     have hq2:w3.heap.size<=(w1.setCell ⟨gE,5,none⟩ (.slice Aw (k+1) cw)).heap.size:=by simp [World.setCell];omega
     have R:=hide (show Making w2 gE w3.heap.size F lp np (k+1) (w1.setCell ⟨gE,5,none⟩ (.slice Aw (k+1) cw)) from⟨_,bx2,by rw [HS.out];simpa [Br] using ow2,b22,hq2,by omega,by omega⟩)
     clear b21 b22 bx2 ow2 hq1 hq2 bx1
     go_wp2_with fail
     go_roundw
     case rel=>exact⟨k+1,by go_num,R.out⟩
     case measure=>simp [intOf];omega
 case rest=>
  obtain⟨k,⟨v',bx,ho,b2,hB,hk5,hkn⟩,hlast⟩:=hcut
  have HX:=hide (K4 (t:=lp) (k:=k) (by have:=HA.out.len;omega) hk5 (by have:=HA.out.len;omega))
  rw [HX.out] at ho
  have hbd:=PA.JY lp
  generalize PA.DY lp=ps at ho HE hbd
  have hlen:ps.length=k:=by simpa [Br] using ho.1
  obtain⟨Av,cv,rfl,_⟩:=Da ho
  have HS:=hide (Seen.CY ho)
  have hne:(Value.slice Av k cv).ownBlock≠some gE:=Ac ho bx (by decide)
  have bk:=BK.out.below b2 BK.out.lt
  have bz:=BZ.out.below b2 BZ.out.lt
  obtain⟨j0,j1,j2,j3,j4⟩:=Box.five bk
  obtain⟨m0,m1,m2,m3,m4,m5,m6⟩:=Box.seven bx
  have fr:=bx.frozen
  have hEZ:gE≠gZ:=by have:=BZ.out.lt;have:=HGE.out;omega
  have hEK:gE≠gK:=by have:=BK.out.lt;have:=HGE.out;omega
  have gX:=hide bx
  have Ug:=hide bz
  have HO:=hide ho
  have HL:=hide hlen
  have B2:=hide (BB.out.trans (b2.mono (hgK▸BB.out.size)))
  clear bx bz bk ho b2 hB HX HB3 HBX hlen
  have em:=X9 3 (by omega) rn
  simp at em
  have Fin: ∀(P:Int) (W:World) (A:Option Addr) (c n:Nat) (l:List Int),P=PA.DC rn F->(l=if ps= [-1] then [] else ps)->l.length=n->Seen W W.heap.size A n (Br l)->Below w.heap.size w W->(∀ad,A=some ad->w.heap.size<=ad.block)->n<=c->JZ w (PA.Cw kd rn fn lp lt) (.returned (.agg #[.int .i64 4,.int .i32 0,.int .u8 P,.int .u8 0,.int .u8 F,.slice A n c,.string ⟨#[]⟩])) W:=by
   intro P W A c n l hP hl hn hs hb hnw hnc
   subst hn
   rw [HE.out, <- hP, <- hl]
   exact⟨A,c,rfl,hs,hb,hnw,hnc⟩
  have FIN:=hide Fin
  clear Fin
  have aQ:(F=104/\PA.DC rn F=63)\/(F≠104/\F=108/\PA.DC rn F=63)\/(F≠104/\F≠108/\rn%8=7/\PA.DC rn F=63)\/(F≠104/\F≠108/\rn%8≠7/\PA.DC rn F=0):=by
   unfold PA.DC
   split<;>omega
  go_upto_region 24 with fail
  go_cut [125] (fun u wx=>Tst (PA.DC rn F=63) wc u wx)
  case first=>
   rcases aQ with ⟨p1,p⟩ | ⟨p1,p2,p⟩ | ⟨p1,p2,p3,p⟩ | ⟨p1,p2,p3,p⟩
   ·have d1:(F==104)=true:=by simpa using p1
    have HP:=hide p
    clear p p1
    go_wp2_with fail
    go_meet
    exact⟨true,rfl,hide (by simp [HP.out]),rfl⟩
   ·have d1:(F==104)=false:=by simpa using p1
    have d2:(F==108)=true:=by simpa using p2
    have HP:=hide p
    clear p p1 p2
    go_wp2_with fail
    go_meet
    exact⟨true,rfl,hide (by simp [HP.out]),rfl⟩
   ·have d1:(F==104)=false:=by simpa using p1
    have d2:(F==108)=false:=by simpa using p2
    have d3:(rn%8==7)=true:=by simpa using p3
    have HP:=hide p
    clear p p1 p2 p3
    go_wp2_with fail
    go_meet
    exact⟨true,rfl,hide (by simp [HP.out]),rfl⟩
   ·have d1:(F==104)=false:=by simpa using p1
    have d2:(F==108)=false:=by simpa using p2
    have d3:(rn%8==7)=false:=by simpa using p3
    have HP:=hide p
    clear p p1 p2 p3
    go_wp2_with fail
    go_meet
    exact⟨false,rfl,hide (by simp [HP.out]),rfl⟩
  case rest=>
   obtain⟨b,rfl,HB,rfl⟩:=hcut
   have hP0:PA.DC rn F=if b=true then 63 else 0:=by
    rcases aQ with ⟨_,p⟩ | ⟨_,_,p⟩ | ⟨_,_,_,p⟩ | ⟨_,_,_,p⟩
    ·rw [if_pos (HB.out.2 p),p]
    ·rw [if_pos (HB.out.2 p),p]
    ·rw [if_pos (HB.out.2 p),p]
    ·rw [if_neg (fun e=>by have:=HB.out.1 e;omega),p]
   have HP0:=hide hP0
   clear hP0 aQ em
   go_upto_if 125 with fail
   go_cut [] (fun wx=>Box wx gE 34 #[.int .i64 4,.int .i32 0,.int .u8 (PA.DC rn F),.int .u8 0,.int .u8 F,.slice Av k cv,.string ⟨#[]⟩] /\Box wx gZ 34 #[.int .i64 0,.int .i32 0,.int .u8 0,.int .u8 0,.int .u8 0,.slice none 0 0,.string ⟨#[]⟩] /\wx.ownsRow w3.heap.size 3 1 (.slice Av k cv) k (Br ps)/\Below w.heap.size w wx)
   case first=>
    rcases b with _ | _
    ·have HP1:=hide (show PA.DC rn F=0 from HP0.out)
     go_wp2_with fail
     go_meet
     rw [HP1.out]
     exact⟨gX.out,Ug.out,HO.out,B2.out⟩
    ·have HP1:=hide (show PA.DC rn F=63 from HP0.out)
     go_wp2_with fail
     go_meet
     rw [HP1.out]
     exact⟨by simpa using gX.out.set 2 (.int .u8 63),Ug.out.far (p:=⟨gE,2,none⟩) hEZ.symm _,Dc HO.out (p:=⟨gE,2,none⟩) hne _,B2.out.setCell (p:=⟨gE,2,none⟩) (show w.heap.size<=gE by have:=HGE.out;have:=BB.out.size;omega) _⟩
   case rest=>
    obtain⟨bx,bz,ho,bw⟩:=hcut
    obtain⟨P,hP⟩: ∃P,PA.DC rn F=P:=⟨_,rfl⟩
    rw [hP] at bx
    have HPP:=hide hP.symm
    clear hP gX Ug HO HB HP0 B2 j0 j1 j2 j3 j4 m0 m1 m2 m3 m4 m5 m6 fr
    obtain⟨m0,m1,m2,m3,m4,m5,m6⟩:=Box.seven bx
    obtain⟨z0,z1,z2,z3,z4,z5,z6⟩:=Box.seven bz
    have fr:=bx.frozen
    have fz:=bz.frozen
    have gX:=hide bx
    have Ug:=hide bz
    have HO:=hide ho
    have HW:=hide bw
    have hnz:(Value.slice Av k cv).ownBlock≠some gZ:=Ac ho bz (by decide)
    have hsn:=Seen.CY ho
    have hlz:=hzb
    have HNW:=hide (show∀A,Av=A-> ∀ad,A=some ad->w.heap.size<=ad.block from fun A e ad h=>by have h1:=kP ho ad (e.trans h);have h2:=BB.out.size;have h3:=HGE.out;omega)
    clear bx bz ho bw
    have End: ∀(X:World) (A:Option Addr) (c n:Nat) (l:List Int),Box X gZ 34 #[.int .i64 0,.int .i32 0,.int .u8 0,.int .u8 0,.int .u8 0,.slice none 0 0,.string ⟨#[]⟩] ->Below w.heap.size w X->(l=if ps= [-1] then [] else ps)->l.length=n->(∃B et,X.ownsRow B et 1 (.slice A n c) n (Br l)/\(Value.slice A n c).ownBlock≠some gZ)->(∀ad,A=some ad->w.heap.size<=ad.block)->
      ∀W7,(((((((X.setCell ⟨gZ,0,none⟩ (.int .i64 4)).setCell ⟨gZ,1,none⟩ (.int .i32 0)).setCell ⟨gZ,2,none⟩ (.int .u8 P)).setCell ⟨gZ,3,none⟩ (.int .u8 0)).setCell ⟨gZ,4,none⟩ (.int .u8 F)).setCell ⟨gZ,5,none⟩ (.slice A n c)).setCell ⟨gZ,6,none⟩ (.string ⟨#[]⟩))=W7->
      Box W7 gZ 34 #[.int .i64 4,.int .i32 0,.int .u8 P,.int .u8 0,.int .u8 F,.slice A n c,.string ⟨#[]⟩] /\JZ w (PA.Cw kd rn fn lp lt) (.returned (.agg #[.int .i64 4,.int .i32 0,.int .u8 P,.int .u8 0,.int .u8 F,.slice A n c,.string ⟨#[]⟩])) W7:=by
     rintro X A c n l hz hb hl hn ⟨B,et,ho,hne⟩ hnw W7 rfl
     exact⟨Box.Gv hz _ _ _ _ _ _ _,FIN.out P _ A c n l HPP.out hl hn (Seen.CY (KL ho hne _ _ _ _ _ _ _)) (Bt hb (hgK▸hlz) _ _ _ _ _ _ _) hnw (kN ho)⟩
    have END:=hide End
    clear End
    by_cases h1:k=1
    ·subst h1
     obtain⟨x,hx⟩: ∃x,ps= [x] :=by
      have:=HL.out
      rcases ps with _ | ⟨x,_ | ⟨y,l⟩⟩<;>simp at this
      exact⟨x,rfl⟩
     obtain⟨ad,u,had,_,hu,hc⟩:=hsn.at_ (k:=0) (by omega)
     subst had
     rw [hx] at hu
     have hu:Value.int .i64 x=u:=by simpa [Br] using hu
     subst hu
     rw [show ad.add 0=ad from by simp [Addr.add]] at hc
     have HPX:=hide hx
     clear hx hsn
     by_cases hx1:x= -1
     ·have d1:(x== -1)=true:=by simpa using hx1
      have hps:ps= [-1] :=by rw [HPX.out,hx1]
      have HQ:=hide (show([] :List Int)=if ps= [-1] then [] else ps by rw [if_pos hps])
      clear hps hx1
      go_wp2_with fail
      obtain⟨b7,g7⟩:=END.out (wc.setCell ⟨gE,5,none⟩ (.slice none 0 0)) none 0 0 [] (Ug.out.far (p:=⟨gE,5,none⟩) hEZ.symm _) (HW.out.setCell (p:=⟨gE,5,none⟩) (show w.heap.size<=gE by have:=HGE.out;have:=BB.out.size;omega) _) HQ.out rfl ⟨0,0,World.ownsRow_nil _ _ _ _,by simp [Value.ownBlock]⟩ (fun ad h=>by cases h) _ rfl
      obtain⟨i0',i1,i2,i3,i4,i5,i6⟩:=Box.seven b7
      exact bodyPost_ret (v:=.agg #[.int .i64 4,.int .i32 0,.int .u8 P,.int .u8 0,.int .u8 F,.slice none 0 0,.string ⟨#[]⟩]) (by simp [results,Tryz.results13,go_sem,i0',i1,i2,i3,i4,i5,i6]) rfl g7
     ·have d1:(x== -1)=false:=by simpa using hx1
      have hps: ¬ps= [-1] :=by rw [HPX.out];simpa using hx1
      have HQ:=hide (show ps=if ps= [-1] then [] else ps by rw [if_neg hps])
      clear hps hx1
      go_wp2_with fail
      obtain⟨b7,g7⟩:=END.out wc (some ad) cv 1 ps Ug.out HW.out HQ.out HL.out ⟨_,_,HO.out,hnz⟩ (HNW.out _ rfl) _ rfl
      obtain⟨i0',i1,i2,i3,i4,i5,i6⟩:=Box.seven b7
      exact bodyPost_ret (v:=.agg #[.int .i64 4,.int .i32 0,.int .u8 P,.int .u8 0,.int .u8 F,.slice (some ad) 1 cv,.string ⟨#[]⟩]) (by simp [results,Tryz.results13,go_sem,i0',i1,i2,i3,i4,i5,i6]) rfl g7
    ·have d1:((k:Int)==1)=false:=by simp;omega
     have hps: ¬ps= [-1] :=fun e=>h1 (by rw [<- HL.out,e];rfl)
     have HQ:=hide (show ps=if ps= [-1] then [] else ps by rw [if_neg hps])
     clear hps h1 hsn
     go_wp2_with fail
     obtain⟨b7,g7⟩:=END.out wc Av cv k ps Ug.out HW.out HQ.out HL.out ⟨_,_,HO.out,hnz⟩ (HNW.out _ rfl) _ rfl
     obtain⟨i0',i1,i2,i3,i4,i5,i6⟩:=Box.seven b7
     exact bodyPost_ret (v:=.agg #[.int .i64 4,.int .i32 0,.int .u8 P,.int .u8 0,.int .u8 F,.slice Av k cv,.string ⟨#[]⟩]) (by simp [results,Tryz.results13,go_sem,i0',i1,i2,i3,i4,i5,i6]) rfl g7
theorem Ry (kd rn fn:Int) (Ap At:Option Addr) (np cp nt ct:Nat) (w:World) (lp lt:List Int) (hk: -9223372036854775808<=kd/\kd<=9223372036854775807) (hr: -9223372036854775808<=rn/\rn<=9223372036854775807) (hf: -9223372036854775808<=fn/\fn<=9223372036854775807) (hP:Arg .i64 w Ap np cp lp) (hT:Arg .u8 w At nt ct lt):
  Calls Tryz.prog 13 #[.agg #[.int .i64 kd,.int .i64 rn,.int .i64 fn,.slice Ap np cp,.slice At nt ct]] w (JZ w (PA.Cw kd rn fn lp lt)):=by
 have cs:kd%6=0\/kd%6=1\/kd%6=2\/kd%6=3\/(kd%6=4\/kd%6=5):=by omega
 rcases cs with h | h | h | h | h
 ·by_cases h3:rn.tmod 7=3
  ·exact kR kd rn fn Ap At np cp nt ct w lp lt hk hr hf h h3
  ·exact kQ kd rn fn Ap At np cp nt ct w lp lt hk hr hf h h3
 ·exact nQ kd rn fn Ap At np cp nt ct w lp lt hk hr hf h
 ·exact nR kd rn fn Ap At np cp nt ct w lp lt hk hr hf h
 ·exact nS kd rn fn Ap At np cp nt ct w lp lt hk hr hf h hT
 ·exact nU kd rn fn Ap At np cp nt ct w lp lt hk hr hf h hP
end Go.Proofs.YtoaabebgmdbjeaaGreatDoor
namespace Go.Proofs.YtoaabebgmdbjeaaGreatDoor
open Go Go.Joins Go.ChangeShapes Go.WideShapes Go.RowKit Go.Deep
section
variable {H:Type} {enc:TypeId × Value->H} {P:Program} {w:World} {base:Nat} {spare:Nat->Bool} {held:Bool}
theorem Eb {k:IntKind} {t e:TypeId} {n:Nat} {u:Value} {y:DataW H × List MemPlace} (ht:P.underlying t=some (.slice e)) (he:P.underlying e=some (.int k)) (hc:P.cellsOf e=1) (h:DataW.trod enc P w 0 (fun _=>true) held n t [u] =some y):
  ∃A m c l,u=.slice A m c/\Arg k w A m c l:=by
 rcases open_ints ht he hc h with ⟨hcs,_⟩ | ⟨x,l,c,zs,hcs,_,hl,hm,hz,_,hcell,hwz⟩
 ·simp only [List.cons.injEq,and_true] at hcs
  exact⟨none,0,0, [],hcs,Arg.none _ _⟩
 ·simp only [List.cons.injEq,and_true] at hcs
  exact⟨some x,l,c,zs.take l,hcs,Arg.some_ hl hm (by simpa using hz) hcell hwz⟩
theorem Lb {e:TypeId} {fs:Array Field} {fuel:Nat} {cs:List Value} {x:DataW H × List MemPlace} (hs:P.underlying e=some (.struct fs)) (hone:oneCellFields P fs=true) (hC:P.cellsOf e=fs.size) (hl:cs.length=fs.size)
  (h:DataW.trod enc P w base spare held fuel e cs=some x): ∃n, ∀(j:Nat) (f:Field),fs[j]? =some f-> ∃(u:Value) (y:DataW H × List MemPlace),cs[j]? =some u/\DataW.trod enc P w base spare held n f.type [u] =some y:=by
 obtain⟨xs,n,_,_,_,hlen,hg⟩:=DataW.trod_struct hs h
 refine⟨n,fun j f hj=>?_⟩
 obtain⟨o,k⟩:=hone_of hone j f hj
 have hjl:j<fs.size:=(Array.getElem?_eq_some_iff.1 hj).1
 have hg':=hg j f hj
 rw [o,k] at hg'
 have hcl:j<cs.length:=by omega
 have hxl:j<xs.length:=by omega
 have hd:(cs.drop j).take 1= [cs[j]] :=by
  rw [List.drop_eq_getElem_cons hcl]
  rfl
 rw [hd] at hg'
 exact⟨cs[j],xs[j],List.getElem?_eq_getElem hcl,hg'.trans (List.getElem?_eq_getElem hxl)⟩
theorem Lc {t e:TypeId} {fs:Array Field} {n:Nat} {u:Value} {y:DataW H × List MemPlace} (ht:P.underlying t=some (.slice e)) (he:P.underlying e=some (.struct fs)) (hone:oneCellFields P fs=true) (hC:P.cellsOf e=fs.size)
  (h:DataW.trod enc P w 0 (fun _=>true) held n t [u] =some y):
  u=.slice none 0 0\/ ∃(a:Addr) (len cap:Nat),u=.slice (some a) len cap/\len<=cap/\cap<=maxLen/\
   ∀i,i<len-> ∃n, ∀(j:Nat) (f:Field),fs[j]? =some f-> ∃(v:Value) (y:DataW H × List MemPlace),w.cell? (a.add (i*fs.size+j))=some v/\DataW.trod enc P w 0 (fun _=>true) held n f.type [v] =some y:=by
 rcases open_slice ht h with ⟨hcs,_⟩ | ⟨a,len,cap,m,n',D,Pl,hcs,_,hl,hm,hmm,_,hi⟩
 ·simp only [List.cons.injEq,and_true] at hcs
  exact .inl hcs
 ·simp only [List.cons.injEq,and_true] at hcs
  refine .inr ⟨a,len,cap,hcs,hl,hm,fun i hil=>?_⟩
  obtain⟨cs',hc,ht'⟩:=hi i (by rw [hmm];simp;omega)
  rw [hC] at hc
  obtain⟨_,hcl,hat⟩:=World.cells?_some hc
  obtain⟨n2,hf⟩:=Lb he hone hC hcl ht'
  refine⟨n2,fun j f hj=>?_⟩
  obtain⟨v,y',hv,hy⟩:=hf j f hj
  have hjl:j<fs.size:=(Array.getElem?_eq_some_iff.1 hj).1
  have:=hat j hjl
  rw [hv,Go.Deep.add_add] at this
  exact⟨v,y',this,hy⟩
end
end Go.Proofs.YtoaabebgmdbjeaaGreatDoor
namespace Go.Proofs.YtoaabebgmdbjeaaGreatDoor
open Go Go.Joins Go.ChangeShapes Go.WideShapes Go.RowKit Go.Deep
section
variable {H:Type} {enc:TypeId × Value->H} {w:World} {held:Bool}
theorem Bv {P:Program} {k:IntKind} {t:TypeId} {n:Nat} {u:Value} {y:DataW H × List MemPlace} (he:P.underlying t=some (.int k)) (h:DataW.trod enc P w 0 (fun _=>true) held n t [u] =some y):
  ∃z,u=.int k z/\(Lit.int k z).wf=true:=by
 obtain⟨z,hc,_,hw⟩:=DataW.trod_int he h
 simp only [List.cons.injEq,and_true] at hc
 exact⟨z,hc,by first | exact hw | exact hw.1 | simpa using hw⟩
end
end Go.Proofs.YtoaabebgmdbjeaaGreatDoor
namespace Go.Proofs.YtoaabebgmdbjeaaGreatDoor
open Go Go.Joins Go.ChangeShapes Go.WideShapes Go.RowKit Go.Deep
section
variable {H:Type} {enc:TypeId × Value->H} {w:World} {held:Bool}
theorem Uh {P:Program} {r:Reach} {b0:Nat} {t:TypeId} {fs:Array Field} {v:Value} {d:DataW H} {p:List MemPlace} (hs:P.underlying t=some (.struct fs)) (hv:Value.okWide P w r b0 t v) (h:DataW.Trod enc P w 0 (fun _=>true) held t v d p):
  ∃(cs:Array Value) (n:Nat),v=.agg cs/\cs.size=P.cellsOf t/\ ∀(j:Nat) (f:Field),fs[j]? =some f-> ∀k,P.cellsOf f.type=k-> ∃(y:DataW H × List MemPlace),DataW.trod enc P w 0 (fun _=>true) held n f.type ((cs.toList.drop f.offset).take k)=some y:=by
 obtain⟨cs,rfl,hsz⟩:=okWide_struct hs hv
 obtain⟨fuel,hf⟩:=h
 obtain⟨xs,n,_,hx,_,hlen,hg⟩:=DataW.trod_struct hs hf
 refine⟨cs,n,rfl,hsz,fun j f hj k hk=>?_⟩
 subst hk
 have hjl:j<fs.size:=(Array.getElem?_eq_some_iff.1 hj).1
 have hxl:j<xs.length:=by omega
 exact⟨xs[j],(hg j f hj).trans (List.getElem?_eq_getElem hxl)⟩
theorem Rz {P:Program} {t:TypeId} {fs:Array Field} {fuel:Nat} {cs:List Value} {x:DataW H × List MemPlace} (hs:P.underlying t=some (.struct fs)) (h:DataW.trod enc P w 0 (fun _=>true) held fuel t cs=some x):
  ∃(n:Nat),cs.length=P.cellsOf t/\ ∀(j:Nat) (f:Field),fs[j]? =some f-> ∀k,P.cellsOf f.type=k-> ∃(y:DataW H × List MemPlace),DataW.trod enc P w 0 (fun _=>true) held n f.type ((cs.drop f.offset).take k)=some y:=by
 obtain⟨xs,n,_,hx,hl,hlen,hg⟩:=DataW.trod_struct hs h
 refine⟨n,hl,fun j f hj k hk=>?_⟩
 subst hk
 have hjl:j<fs.size:=(Array.getElem?_eq_some_iff.1 hj).1
 have hxl:j<xs.length:=by omega
 exact⟨xs[j],(hg j f hj).trans (List.getElem?_eq_getElem hxl)⟩
theorem Ld {r:Reach} {b0:Nat} {v:Value} {d:DataW H} {p:List MemPlace} (hv:Value.okWide Tryz.prog w r b0 29 v) (h:DataW.Trod enc Tryz.prog w 0 (fun _=>true) held 29 v d p):
  ∃(rw cl:Int) (Ap:Option Addr) (np cp:Nat) (lp:List Int) (At:Option Addr) (nt ct:Nat) (lt:List Int) (a b c d e p0 p1 p2 u:Int),
   v=.agg #[.int .i64 rw,.int .i64 cl,.slice Ap np cp,.slice At nt ct,.int .i64 a,.int .i64 b,.int .i64 c,.int .i64 d,.int .i64 e,.int .i64 p0,.int .i64 p1,.int .i64 p2,.int .u64 u] /\
   (Lit.int .i64 rw).wf=true/\(Lit.int .i64 cl).wf=true/\Arg .i64 w Ap np cp lp/\Arg .i64 w At nt ct lt/\(Lit.int .i64 a).wf=true/\(Lit.int .i64 b).wf=true/\(Lit.int .i64 c).wf=true/\(Lit.int .i64 d).wf=true/\(Lit.int .i64 e).wf=true/\
   (Lit.int .i64 p0).wf=true/\(Lit.int .i64 p1).wf=true/\(Lit.int .i64 p2).wf=true/\(Lit.int .u64 u).wf=true:=by
 obtain⟨⟨l⟩,n,rfl,hsz,hf⟩:=Uh Tryz.underlying29 hv h
 have hl:l.length=13:=hsz.trans (by kernel_rfl)
 obtain⟨k0,k1,k2,k3,k4,k5,k6,k7,k8,k9,k10,k11,k12,rfl⟩: ∃k0 k1 k2 k3 k4 k5 k6 k7 k8 k9 k10 k11 k12,l= [k0,k1,k2,k3,k4,k5,k6,k7,k8,k9,k10,k11,k12] :=by
  match l,hl with
  | [k0,k1,k2,k3,k4,k5,k6,k7,k8,k9,k10,k11,k12],_=>exact⟨k0,k1,k2,k3,k4,k5,k6,k7,k8,k9,k10,k11,k12,rfl⟩
 obtain⟨yg,tg⟩: ∃y,DataW.trod enc Tryz.prog w 0 (fun _=>true) held n 24 [k0,k1,k2,k3] =some y:=hf 0 _ rfl 4 (by kernel_rfl)
 obtain⟨y1,t1⟩: ∃y,DataW.trod enc Tryz.prog w 0 (fun _=>true) held n 3 [k4] =some y:=hf 1 _ rfl 1 (by kernel_rfl)
 obtain⟨y2,t2⟩: ∃y,DataW.trod enc Tryz.prog w 0 (fun _=>true) held n 3 [k5] =some y:=hf 2 _ rfl 1 (by kernel_rfl)
 obtain⟨y3,t3⟩: ∃y,DataW.trod enc Tryz.prog w 0 (fun _=>true) held n 3 [k6] =some y:=hf 3 _ rfl 1 (by kernel_rfl)
 obtain⟨y4,t4⟩: ∃y,DataW.trod enc Tryz.prog w 0 (fun _=>true) held n 3 [k7] =some y:=hf 4 _ rfl 1 (by kernel_rfl)
 obtain⟨y5,t5⟩: ∃y,DataW.trod enc Tryz.prog w 0 (fun _=>true) held n 3 [k8] =some y:=hf 5 _ rfl 1 (by kernel_rfl)
 obtain⟨yp,tp⟩: ∃y,DataW.trod enc Tryz.prog w 0 (fun _=>true) held n 26 [k9,k10,k11] =some y:=hf 6 _ rfl 3 (by kernel_rfl)
 obtain⟨y7,t7⟩: ∃y,DataW.trod enc Tryz.prog w 0 (fun _=>true) held n 27 [k12] =some y:=hf 7 _ rfl 1 (by kernel_rfl)
 obtain⟨ng,_,hg⟩:=Rz Tryz.underlying24 tg
 obtain⟨nq,_,hp⟩:=Rz Tryz.underlying26 tp
 obtain⟨g0,s0⟩: ∃y,DataW.trod enc Tryz.prog w 0 (fun _=>true) held ng 3 [k0] =some y:=hg 0 _ rfl 1 (by kernel_rfl)
 obtain⟨g1,s1⟩: ∃y,DataW.trod enc Tryz.prog w 0 (fun _=>true) held ng 3 [k1] =some y:=hg 1 _ rfl 1 (by kernel_rfl)
 obtain⟨g2,s2⟩: ∃y,DataW.trod enc Tryz.prog w 0 (fun _=>true) held ng 22 [k2] =some y:=hg 2 _ rfl 1 (by kernel_rfl)
 obtain⟨g3,s3⟩: ∃y,DataW.trod enc Tryz.prog w 0 (fun _=>true) held ng 22 [k3] =some y:=hg 3 _ rfl 1 (by kernel_rfl)
 obtain⟨q0,r0⟩: ∃y,DataW.trod enc Tryz.prog w 0 (fun _=>true) held nq 3 [k9] =some y:=hp 0 _ rfl 1 (by kernel_rfl)
 obtain⟨q1,r1⟩: ∃y,DataW.trod enc Tryz.prog w 0 (fun _=>true) held nq 3 [k10] =some y:=hp 1 _ rfl 1 (by kernel_rfl)
 obtain⟨q2,r2⟩: ∃y,DataW.trod enc Tryz.prog w 0 (fun _=>true) held nq 3 [k11] =some y:=hp 2 _ rfl 1 (by kernel_rfl)
 obtain⟨rw,rfl,w0⟩:=Bv Tryz.underlying3 s0
 obtain⟨cl,rfl,w1⟩:=Bv Tryz.underlying3 s1
 obtain⟨Ap,np,cp,lp,rfl,ap⟩:=Eb (k:=.i64) Tryz.underlying22 Tryz.underlying3 (by kernel_rfl) s2
 obtain⟨At,nt,ct,lt,rfl,at_⟩:=Eb (k:=.i64) Tryz.underlying22 Tryz.underlying3 (by kernel_rfl) s3
 obtain⟨a,rfl,wa⟩:=Bv Tryz.underlying3 t1
 obtain⟨b,rfl,wb⟩:=Bv Tryz.underlying3 t2
 obtain⟨c,rfl,wc⟩:=Bv Tryz.underlying3 t3
 obtain⟨d',rfl,wd⟩:=Bv Tryz.underlying3 t4
 obtain⟨e,rfl,we⟩:=Bv Tryz.underlying3 t5
 obtain⟨p0,rfl,wp0⟩:=Bv Tryz.underlying3 r0
 obtain⟨p1,rfl,wp1⟩:=Bv Tryz.underlying3 r1
 obtain⟨p2,rfl,wp2⟩:=Bv Tryz.underlying3 r2
 obtain⟨u,rfl,wu⟩:=Bv Tryz.underlying27 t7
 exact⟨rw,cl,Ap,np,cp,lp,At,nt,ct,lt,a,b,c,d',e,p0,p1,p2,u,rfl,w0,w1,ap,at_,wa,wb,wc,wd,we,wp0,wp1,wp2,wu⟩
end
end Go.Proofs.YtoaabebgmdbjeaaGreatDoor
namespace Go.Proofs.YtoaabebgmdbjeaaGreatDoor
open Go Go.Joins Go.ChangeShapes Go.WideShapes Go.RowKit Go.Deep
section
variable {H:Type} {enc:TypeId × Value->H} {w:World} {held:Bool}
theorem Gz {P:Program} {k:IntKind} {t:TypeId} {n:Nat} {u:Value} {y:DataW H × List MemPlace} (he:P.underlying t=some (.int k)) (h:DataW.trod enc P w 0 (fun _=>true) held n t [u] =some y):
  ∃z,u=.int k z/\(Lit.int k z).wf=true:=by
 obtain⟨z,hc,_,hw⟩:=DataW.trod_int he h
 simp only [List.cons.injEq,and_true] at hc
 exact⟨z,hc,by first | exact hw | exact hw.1 | simpa using hw⟩
end
end Go.Proofs.YtoaabebgmdbjeaaGreatDoor
