/- A part of the proof: UtfSmall, ParseTab, ParseMove. -/
import Derived.Test.YtoaabebgmdbjeaaGreatDoorSb09
set_option maxRecDepth 100000
set_option maxHeartbeats 16000000
set_option linter.unusedVariables false
namespace Go.Proofs.YtoaabebgmdbjeaaGreatDoor
open Go.RowKit
theorem Uq {k:IntKind} {a b:Int} (h:a=b):Ending.returned (.int k a)=.returned (.int k b):=by rw [h]
theorem Sz {k:IntKind} {a b:Int} (h:a=b):Ending.returned (.int k a)=.returned (.int k b):=by rw [h]
theorem ZJ {a b:Bool} (h:a=b):Ending.returned (.bool a)=.returned (.bool b):=by rw [h]
theorem MO (n:Int) (w:World):Calls Tryz.prog 204 #[.int .i64 n] w fun e w'=>e=.returned (.bool (U.isR n))/\w=w':=by
 have cs:n<0\/1114111<n\/(0<=n/\n<55296)\/(55296<=n/\n<=57343)\/(57343<n/\n<=1114111):=by omega
 have hr: ∀b:Bool,(b=true<->(0<=n/\n<=1114111/\(n<55296\/57343<n)))->Ending.returned (.bool b)=.returned (.bool (U.isR n)):=fun b hb=>ZJ (by unfold U.isR;rw [Bool.eq_iff_iff,hb,decide_eq_true_iff])
 have HR:=Lib.hid hr
 clear hr
 rcases cs with h | h | h | h | h
 all_goals
  go_enter Tryz.func204,Tryz.ntmps204
  go_wp2
  go_ret
  exact⟨HR.out _ (by simp;omega),rfl⟩
theorem QW (r:Int) (w:World):Calls Tryz.prog 205 #[.int .i32 r] w fun e w'=>e=.returned (.int .i64 (U.sz r))/\w=w':=by
 have hr: ∀k:Int,U.sz r=k->Ending.returned (.int .i64 k)=.returned (.int .i64 (U.sz r)):=fun k hb=>Uq hb.symm
 have HR:=Lib.hid hr
 clear hr
 have cs:r<128\/(128<=r/\r<2048)\/(2048<=r/\r<65536)\/65536<=r:=by omega
 rcases cs with h | h | h | h
 all_goals
  go_enter Tryz.func205,Tryz.ntmps205
  go_wp2
  go_ret
  exact⟨HR.out _ (by unfold U.sz;repeat(first | rw [if_pos (by omega)] | rw [if_neg (by omega)])),rfl⟩
theorem IY (s:U.St) (w:World):Calls Tryz.prog 139 #[s.val] w fun e w'=>e=.returned (.bool (decide (0<s.need)))/\w.alloc (.cells #[.int .i64 s.need,.int .i64 s.have_,.int .i64 s.acc] 95)=w':=by
 unfold U.St.val
 go_enter Tryz.func139,Tryz.ntmps139
 go_wp2
 go_ret
 exact⟨rfl,rfl⟩
theorem WQ (need acc:Int) (h0:0<=acc) (h1:acc<2147483648) (w:World):Calls Tryz.prog 221 #[.int .i64 need,.int .i64 acc] w fun e w'=>e=.returned (.int .i32 (U.wh need acc))/\w=w':=by
 have hr: ∀k:Int,U.wh need acc=k->Ending.returned (.int .i32 k)=.returned (.int .i32 (U.wh need acc)):=fun k hb=>Uq hb.symm
 have HR:=Lib.hid hr
 clear hr
 have ci:=MO acc
 have cz:=QW acc
 rcases hi:U.isR acc with _ | _
 ·have HW:Hid (U.wh need acc=65533):=by simp [Hid,U.wh,hi]
  rw [hi] at ci
  clear hi
  have CI:=Lib.hid ci
  clear ci cz
  go_enter Tryz.func221,Tryz.ntmps221
  go_wp2_with (go_at_call 204;refine(CI.out _).mono ?_;rintro e w' ⟨rfl,rfl⟩)
  go_ret
  exact⟨HR.out _ HW.out,rfl⟩
 ·by_cases hz:U.sz acc=need
  ·have HW:Hid (U.wh need acc=acc):=by simp [Hid,U.wh,hi,hz]
   rw [hi] at ci
   rw [hz] at cz
   clear hi hz
   have CI:=Lib.hid ci
   have CZ:=Lib.hid cz
   clear ci cz
   go_enter Tryz.func221,Tryz.ntmps221
   go_wp2_with (first | (go_at_call 204;refine(CI.out _).mono ?_;rintro e w' ⟨rfl,rfl⟩) | (go_at_call 205;refine(CZ.out _).mono ?_;rintro e w' ⟨rfl,rfl⟩))
   go_ret
   exact⟨HR.out _ HW.out,rfl⟩
  ·have HW:Hid (U.wh need acc=65533):=by simp [Hid,U.wh,hz]
   rw [hi] at ci
   generalize U.sz acc=q at cz hz
   clear hi
   have CI:=Lib.hid ci
   have CZ:=Lib.hid cz
   clear ci cz
   go_enter Tryz.func221,Tryz.ntmps221
   go_wp2_with (first | (go_at_call 204;refine(CI.out _).mono ?_;rintro e w' ⟨rfl,rfl⟩) | (go_at_call 205;refine(CZ.out _).mono ?_;rintro e w' ⟨rfl,rfl⟩))
   go_ret
   exact⟨HR.out _ HW.out,rfl⟩
end Go.Proofs.YtoaabebgmdbjeaaGreatDoor
namespace Go.Proofs.YtoaabebgmdbjeaaGreatDoor
open Go.RowKit
theorem step_end {base:Nat} {w w0 w1:World} {v v':Value} {n m g:Nat} {t t':TypeId} {xs ys:List Value} {cs:Array Value} (p q u:Value) (hne:t≠t') (hbx:Box w1 g t' cs) (hw0:w.grownBy w0 v.ownBlock) (hgw:w.heap.size<=g)
  (hown:w1.ownsRow base t 1 v' m ys) (hg:w0.grownBy w1 v.ownBlock) (hm:Moved w0 v v') (hmm:n+xs.length=m) {zs:List Value} (hz:zs++xs=ys):
  (((w1.setCell ⟨g,0,none⟩ p).setCell ⟨g,1,none⟩ q).setCell ⟨g,2,none⟩ u).ownsRow base t 1 v' (n+xs.length) (zs++xs)/\
   w.grownBy (((w1.setCell ⟨g,0,none⟩ p).setCell ⟨g,1,none⟩ q).setCell ⟨g,2,none⟩ u) v.ownBlock/\Moved w v v':=by
 have hno:v'.ownBlock≠some g:=fun e=>hbx.Xv hown hne e.symm
 subst hz
 subst hmm
 refine⟨Hy (Hy (Hy hown hno _) hno _) hno _,?_,?_⟩
 ·exact Gb (Gb (Gb (hw0.trans hg) hgw _) hgw _) hgw _
 ·rcases hm with hm | ⟨k,h1,h2⟩
  ·exact .inl hm
  ·exact .inr ⟨k,h1,Nat.le_trans hw0.size h2⟩
set_option maxRecDepth 20000 in
theorem Nu (base:Nat) (v:Value) (n:Nat) (xs:List Value) (b:Int) (w:World) (hown:w.ownsRow base 21 1 v n xs) (hn:n<=1099511627776) (hbase:base<=w.heap.size) (h0:0<=b) (h1:b<256):
  Calls Tryz.prog 220 #[v,.int .u8 b] w (RI base 21 w v n xs (DV (U.bg b).2) fun v'=>.tuple #[(U.bg b).1.val,v']):=by
 obtain⟨i0,hi,hz0,hz1,hz2⟩:=info_parts H6
 have cs:b<128\/(128<=b/\b<194)\/(194<=b/\b<224)\/(224<=b/\b<240)\/(240<=b/\b<=244)\/244<b:=by omega
 rcases cs with h | h | h | h | h | h
 ·have e:U.bg b=(U.z, [b]):=by unfold U.bg;repeat(first | rw [if_pos (by omega)] | rw [if_neg (by omega)])
  rw [e]
  clear e
  have hown':=DK hown (.cells #[.int .i64 0,.int .i64 0,.int .i64 0] 95)
  go_enter Tryz.func220,Tryz.ntmps220
  go_wp2_with (at_builtin;go_must (refine BM rfl (.tmp 10) (.tmp 13) 84 rfl base 21 i0 _ 4 Tryz.underlying84 hi hz0 hz1 hz2 rfl v n xs rfl hown' _ _ _ rfl (by simp) rfl (by omega) hn (by simp;omega) ?_);intro v' w1 hown1 hg1 hm1;have hbx:=(Box.new w 95 #[.int .i64 0,.int .i64 0,.int .i64 0]).grown hg1 (fun e=>by have:=hown.lt _ e.symm;omega);obtain⟨k0,k1,k2,k3,k4,k5⟩:=hbx.three)
  refine bodyPost_ret (v:=.tuple #[U.z.val,v']) (by simp [results,Tryz.results220,go_sem,U.St.val,U.z,k0,k1,k2]) rfl ⟨v',rfl,?_⟩
  exact step_end _ _ _ (by decide) hbx (World.grownBy_alloc w _ _) (Nat.le_refl _) hown1 hg1 hm1 rfl rfl
 ·have e:U.bg b=(U.z, [65533]):=by unfold U.bg;repeat(first | rw [if_pos (by omega)] | rw [if_neg (by omega)])
  rw [e]
  clear e
  have hown':=DK hown (.cells #[.int .i64 0,.int .i64 0,.int .i64 0] 95)
  go_enter Tryz.func220,Tryz.ntmps220
  go_wp2_with (at_builtin;go_must (refine BM rfl (.tmp 52) (.tmp 53) 84 rfl base 21 i0 _ 4 Tryz.underlying84 hi hz0 hz1 hz2 rfl v n xs rfl hown' _ _ _ rfl (by simp) rfl (by omega) hn (by simp;omega) ?_);intro v' w1 hown1 hg1 hm1;have hbx:=(Box.new w 95 #[.int .i64 0,.int .i64 0,.int .i64 0]).grown hg1 (fun e=>by have:=hown.lt _ e.symm;omega);obtain⟨k0,k1,k2,k3,k4,k5⟩:=hbx.three)
  refine bodyPost_ret (v:=.tuple #[U.z.val,v']) (by simp [results,Tryz.results220,go_sem,U.St.val,U.z,k0,k1,k2]) rfl ⟨v',rfl,?_⟩
  exact step_end _ _ _ (by decide) hbx (World.grownBy_alloc w _ _) (Nat.le_refl _) hown1 hg1 hm1 rfl rfl
 ·have e:U.bg b=(⟨2,1,b-192⟩, []):=by unfold U.bg;repeat(first | rw [if_pos (by omega)] | rw [if_neg (by omega)])
  rw [e]
  clear e
  have em:=U.U9 b h0 h1
  have em':bits .andNot .u8 b 192=b-192:=by omega
  have ew:wrap64 (b-192)=b-192:=IntWalk.wrap64_in _ ⟨by omega,by omega⟩
  have E:=hide em'
  have EW:=hide ew
  clear em em' ew
  go_enter Tryz.func220,Tryz.ntmps220
  go_wp2
  refine bodyPost_ret (v:=.tuple #[(U.St.mk 2 1 (b-192)).val,v]) (by simp [results,Tryz.results220,go_sem,U.St.val,E.out,EW.out]) rfl ⟨v,rfl,?_⟩
  exact⟨by simpa [DV] using DK hown _,World.grownBy_alloc w _ _,.inl rfl⟩
 ·have e:U.bg b=(⟨3,1,b-224⟩, []):=by unfold U.bg;repeat(first | rw [if_pos (by omega)] | rw [if_neg (by omega)])
  rw [e]
  clear e
  have em:=U.VA b h0 h1
  have em':bits .andNot .u8 b 224=b-224:=by omega
  have ew:wrap64 (b-224)=b-224:=IntWalk.wrap64_in _ ⟨by omega,by omega⟩
  have E:=hide em'
  have EW:=hide ew
  clear em em' ew
  go_enter Tryz.func220,Tryz.ntmps220
  go_wp2
  refine bodyPost_ret (v:=.tuple #[(U.St.mk 3 1 (b-224)).val,v]) (by simp [results,Tryz.results220,go_sem,U.St.val,E.out,EW.out]) rfl ⟨v,rfl,?_⟩
  exact⟨by simpa [DV] using DK hown _,World.grownBy_alloc w _ _,.inl rfl⟩
 ·have e:U.bg b=(⟨4,1,b-240⟩, []):=by unfold U.bg;repeat(first | rw [if_pos (by omega)] | rw [if_neg (by omega)])
  rw [e]
  clear e
  have em:=U.VB b h0 h1
  have em':bits .andNot .u8 b 240=b-240:=by omega
  have ew:wrap64 (b-240)=b-240:=IntWalk.wrap64_in _ ⟨by omega,by omega⟩
  have E:=hide em'
  have EW:=hide ew
  clear em em' ew
  go_enter Tryz.func220,Tryz.ntmps220
  go_wp2
  refine bodyPost_ret (v:=.tuple #[(U.St.mk 4 1 (b-240)).val,v]) (by simp [results,Tryz.results220,go_sem,U.St.val,E.out,EW.out]) rfl ⟨v,rfl,?_⟩
  exact⟨by simpa [DV] using DK hown _,World.grownBy_alloc w _ _,.inl rfl⟩
 ·have e:U.bg b=(U.z, [65533]):=by unfold U.bg;repeat(first | rw [if_pos (by omega)] | rw [if_neg (by omega)])
  rw [e]
  clear e
  have hown':=DK hown (.cells #[.int .i64 0,.int .i64 0,.int .i64 0] 95)
  go_enter Tryz.func220,Tryz.ntmps220
  go_wp2_with (at_builtin;go_must (refine BM rfl (.tmp 52) (.tmp 53) 84 rfl base 21 i0 _ 4 Tryz.underlying84 hi hz0 hz1 hz2 rfl v n xs rfl hown' _ _ _ rfl (by simp) rfl (by omega) hn (by simp;omega) ?_);intro v' w1 hown1 hg1 hm1;have hbx:=(Box.new w 95 #[.int .i64 0,.int .i64 0,.int .i64 0]).grown hg1 (fun e=>by have:=hown.lt _ e.symm;omega);obtain⟨k0,k1,k2,k3,k4,k5⟩:=hbx.three)
  refine bodyPost_ret (v:=.tuple #[U.z.val,v']) (by simp [results,Tryz.results220,go_sem,U.St.val,U.z,k0,k1,k2]) rfl ⟨v',rfl,?_⟩
  exact step_end _ _ _ (by decide) hbx (World.grownBy_alloc w _ _) (Nat.le_refl _) hown1 hg1 hm1 rfl rfl
end Go.Proofs.YtoaabebgmdbjeaaGreatDoor
namespace Go.Proofs.YtoaabebgmdbjeaaGreatDoor
open Go.RowKit
theorem l7 (base:Nat) (v:Value) (n:Nat) (xs:List Value) (s:U.St) (b:Int) (w:World) (hown:w.ownsRow base 21 1 v n xs) (hn:n<=1099511627776) (hbase:base<=w.heap.size) (h0:0<=b) (h1:b<256) (hs:s.need<=0):
  Calls Tryz.prog 213 #[s.val,v,.int .u8 b] w (RI base 21 w v n xs (DV (U.it s b).2) fun v'=>.tuple #[(U.it s b).1.val,v']):=by
 have e:U.it s b=U.bg b:=by unfold U.it;rw [if_pos hs]
 rw [e]
 clear e
 have ch:=IY s
 have eh:decide (0<s.need)=false:=decide_eq_false (by omega)
 have cb:=fun w' ho hb'=>Nu base v n xs b w' ho hn hb' h0 h1
 generalize U.bg b=r at cb
 obtain⟨⟨q0,q1,q2⟩,l⟩:=r
 obtain⟨sn,sh,sa⟩:=s
 simp only [U.St.val] at cb ch eh⊢
 rw [eh] at ch
 clear eh hs
 have CB:=hide cb
 have CH:=hide ch
 clear cb ch
 go_enter Tryz.func213,Tryz.ntmps213
 go_wp2_with (first
  | (go_at_call 139;go_must (refine(CH.out _).mono ?_);rintro e w' ⟨rfl,rfl⟩)
  | (go_at_call 220;go_must (refine(CB.out _ (((hown.alloc _).alloc _).alloc _) (by simp;omega)).mono ?_);rintro e w1 ⟨v',rfl,hown1,hg1,hm1⟩;have hbx:=(((Box.new (w.alloc _) 95 #[.int .i64 0,.int .i64 0,.int .i64 0]).alloc _).grown hg1 (fun e=>by have:=hown.lt _ e.symm;simp at this;omega));rw [show(w.alloc (.cells #[.int .i64 sn,.int .i64 sh,.int .i64 sa] 95)).heap.size=w.heap.size+1 from by simp] at hbx;obtain⟨k0,k1,k2,k3,k4,k5⟩:=hbx.three))
 refine bodyPost_ret (v:=.tuple #[.agg #[.int .i64 q0,.int .i64 q1,.int .i64 q2],v']) (by simp [results,Tryz.results213,go_sem,k0,k1,k2]) rfl ⟨v',rfl,?_⟩
 exact step_end _ _ _ (by decide) hbx (DU (DU (World.grownBy_alloc w _ _) _) _) (by omega) hown1 hg1 hm1 rfl rfl
theorem l8 (base:Nat) (v:Value) (n:Nat) (xs:List Value) (s:U.St) (b:Int) (w:World) (hown:w.ownsRow base 21 1 v n xs) (hn:n<=1099511627776) (hbase:base<=w.heap.size) (h0:128<=b) (h1:b<192) (hs:0<s.need) (hso:s.ok) (hm:s.have_+1<s.need):
  Calls Tryz.prog 213 #[s.val,v,.int .u8 b] w (RI base 21 w v n xs (DV (U.it s b).2) fun v'=>.tuple #[(U.it s b).1.val,v']):=by
 have e:U.it s b=(⟨s.need,s.have_+1,s.acc*64+(b-128)⟩, []):=by unfold U.it;rw [if_neg (by omega),if_neg (by omega),if_pos hm]
 rw [e]
 clear e
 have bd:=hso.bd
 have ch:=IY s
 have eh:decide (0<s.need)=true:=decide_eq_true hs
 obtain⟨sn,sh,sa⟩:=s
 simp only [U.St.val] at ch eh⊢
 simp only [] at bd hs hm
 rw [eh] at ch
 clear eh hso
 have CH:=hide ch
 have em:=U.LU b (by omega) (by omega)
 have em':bits .andNot .u8 b 63=128:=by omega
 have en:=U.Pg b (by omega) (by omega)
 have en':bits .and .u8 b 63=b-128:=by omega
 have eo:=Ez 6 (sa*64) (b-128) (by omega) (by omega) (by omega) (by omega) (by omega)
 clear ch em en
 go_enter Tryz.func213,Tryz.ntmps213
 go_wp2_with (first
  | (go_at_call 139;go_must (refine(CH.out _).mono ?_);rintro e w' ⟨rfl,rfl⟩))
 refine bodyPost_ret (v:=.tuple #[.agg #[.int .i64 sn,.int .i64 (sh+1),.int .i64 (sa*64+(b-128))],v]) (by simp [results,Tryz.results213,go_sem]) rfl ⟨v,rfl,?_⟩
 exact⟨by simpa [DV] using ((hown.alloc _).alloc _).alloc _,DU (DU (World.grownBy_alloc w _ _) _) _,.inl rfl⟩
theorem l9 (base:Nat) (v:Value) (n:Nat) (xs:List Value) (s:U.St) (b:Int) (w:World) (hown:w.ownsRow base 21 1 v n xs) (hn:n<=1099511627776) (hbase:base<=w.heap.size) (h0:128<=b) (h1:b<192) (hs:0<s.need) (hso:s.ok) (hm:s.need<=s.have_+1):
  Calls Tryz.prog 213 #[s.val,v,.int .u8 b] w (RI base 21 w v n xs (DV (U.it s b).2) fun v'=>.tuple #[(U.it s b).1.val,v']):=by
 obtain⟨i0,hi,hz0,hz1,hz2⟩:=info_parts H6
 have e:U.it s b=(U.z, [U.wh s.need (s.acc*64+(b-128))]):=by unfold U.it;rw [if_neg (by omega),if_neg (by omega),if_neg (by omega)]
 rw [e]
 clear e
 have bd:=hso.bd
 have ch:=IY s
 have eh:decide (0<s.need)=true:=decide_eq_true hs
 obtain⟨sn,sh,sa⟩:=s
 simp only [U.St.val] at ch eh⊢
 simp only [] at bd hs hm
 rw [eh] at ch
 clear eh hso
 have CH:=hide ch
 have em:=U.LU b (by omega) (by omega)
 have em':bits .andNot .u8 b 63=128:=by omega
 have en:=U.Pg b (by omega) (by omega)
 have en':bits .and .u8 b 63=b-128:=by omega
 have eo:=Ez 6 (sa*64) (b-128) (by omega) (by omega) (by omega) (by omega) (by omega)
 have ha0:0<=sa*64+(b-128):=by omega
 have ha1:sa*64+(b-128)<2147483648:=by omega
 generalize sa*64+(b-128)=A at eo ha0 ha1⊢
 have CW:=hide (WQ sn A ha0 ha1)
 generalize U.wh sn A=R at CW⊢
 have kH:=fun o1 o2 o3=>DK (DK (DK hown o1) o2) o3
 have HO:=hide kH
 clear ch em en kH
 go_enter Tryz.func213,Tryz.ntmps213
 go_wp2_with (first
  | (go_at_call 139;go_must (refine(CH.out _).mono ?_);rintro e w' ⟨rfl,rfl⟩)
  | (go_at_call 221;go_must (refine(CW.out _).mono ?_);rintro e w' ⟨rfl,rfl⟩)
  | (at_builtin;go_must (refine BM rfl (.tmp 46) (.tmp 52) 84 rfl base 21 i0 _ 4 Tryz.underlying84 hi hz0 hz1 hz2 rfl v n xs rfl (HO.out _ _ _) _ _ _ rfl (by simp) rfl (by omega) hn (by simp;omega) ?_);intro v' w1 hown1 hg1 hm1;have hbx:=(((Box.new (w.alloc _) 95 #[.int .i64 0,.int .i64 0,.int .i64 0]).alloc _).grown hg1 (fun e=>by have:=hown.lt _ e.symm;simp at this;omega));rw [World.size_alloc] at hbx;obtain⟨k0,k1,k2,k3,k4,k5⟩:=hbx.three))
 refine bodyPost_ret (v:=.tuple #[U.z.val,v']) (by simp [results,Tryz.results213,go_sem,U.z,U.St.val,k0,k1,k2]) rfl ⟨v',rfl,?_⟩
 exact step_end _ _ _ (by decide) hbx (DU (DU (World.grownBy_alloc w _ _) _) _) (by omega) hown1 hg1 hm1 rfl rfl
theorem mD (base:Nat) (v:Value) (n:Nat) (xs:List Value) (s:U.St) (b:Int) (w:World) (hown:w.ownsRow base 21 1 v n xs) (hn:n<=1099511627775) (hbase:base<=w.heap.size) (h0:0<=b) (h1:b<256) (hs:0<s.need) (hb:b<128\/192<=b):
  Calls Tryz.prog 213 #[s.val,v,.int .u8 b] w (RI base 21 w v n xs (DV (U.it s b).2) fun v'=>.tuple #[(U.it s b).1.val,v']):=by
 obtain⟨i0,hi,hz0,hz1,hz2⟩:=info_parts H6
 have e:U.it s b=((U.bg b).1,65533::(U.bg b).2):=by unfold U.it;rw [if_neg (by omega),if_pos hb]
 rw [e]
 clear e
 have ch:=IY s
 have eh:decide (0<s.need)=true:=decide_eq_true hs
 have cb:=fun v w' n xs (hn:n<=1099511627776) ho hb'=>Nu base v n xs b w' ho hn hb' h0 h1
 generalize U.bg b=r at cb
 obtain⟨⟨q0,q1,q2⟩,l⟩:=r
 obtain⟨sn,sh,sa⟩:=s
 simp only [U.St.val] at cb ch eh⊢
 rw [eh] at ch
 clear eh hs
 have CB:=hide cb
 have CH:=hide ch
 have em:=U.LU b h0 h1
 have hc:b-b%64<128\/128<b-b%64:=by omega
 generalize b-b%64=c at em hc
 have HO:=hide (fun o1 o2 o3=>DK (DK (DK hown o1) o2) o3)
 clear cb ch
 rcases hc with hc | hc
 all_goals
  go_enter Tryz.func213,Tryz.ntmps213
  go_wp2_with (first
   | (go_at_call 139;go_must (refine(CH.out _).mono ?_);rintro e w' ⟨rfl,rfl⟩)
   | (at_builtin;go_must (refine BM rfl (.tmp 19) (.tmp 20) 84 rfl base 21 i0 _ 4 Tryz.underlying84 hi hz0 hz1 hz2 rfl v n xs rfl (HO.out _ _ _) _ _ _ rfl (by simp) rfl (by omega) (by omega) (by simp;omega) ?_);intro v1 w1 hown1 hg1 hm1)
   | (go_at_call 220;go_must (refine(CB.out _ _ _ _ (by omega) hown1 (by have:=hg1.size;simp at this;omega)).mono ?_);rintro e w2 ⟨v',rfl,hown2,hg2,hm2⟩;have hbx:=((((Box.new (w.alloc _) 95 #[.int .i64 0,.int .i64 0,.int .i64 0]).alloc _).grown hg1 (fun e=>by have:=hown.lt _ e.symm;simp at this;omega)).grown hg2 (Box.Xv (((Box.new (w.alloc _) 95 #[.int .i64 0,.int .i64 0,.int .i64 0]).alloc _).grown hg1 (fun e=>by have:=hown.lt _ e.symm;simp at this;omega)) hown1 (by decide)));rw [World.size_alloc] at hbx;obtain⟨k0,k1,k2,k3,k4,k5⟩:=hbx.three))
  refine bodyPost_ret (v:=.tuple #[.agg #[.int .i64 q0,.int .i64 q1,.int .i64 q2],v']) (by simp [results,Tryz.results213,go_sem,k0,k1,k2]) rfl ⟨v',rfl,?_⟩
  exact step_end _ _ _ (by decide) hbx (DU (DU (World.grownBy_alloc w _ _) _) _) (by omega) hown2 (JR hg1 hm1 hg2) (hm1.trans hm2 hg1.size) (by simp [DV];omega) (by simp [DV])
theorem ZK (base:Nat) (v:Value) (n:Nat) (xs:List Value) (s:U.St) (b:Int) (w:World) (hown:w.ownsRow base 21 1 v n xs) (hn:n<=1099511627775) (hbase:base<=w.heap.size) (h0:0<=b) (h1:b<256) (hso:s.ok):
  Calls Tryz.prog 213 #[s.val,v,.int .u8 b] w (RI base 21 w v n xs (DV (U.it s b).2) fun v'=>.tuple #[(U.it s b).1.val,v']):=by
 by_cases hs:s.need<=0
 ·exact l7 base v n xs s b w hown (by omega) hbase h0 h1 hs
 ·by_cases hb:b<128\/192<=b
  ·exact mD base v n xs s b w hown hn hbase h0 h1 (by omega) hb
  ·by_cases hm:s.have_+1<s.need
   ·exact l8 base v n xs s b w hown (by omega) hbase (by omega) (by omega) (by omega) hso hm
   ·exact l9 base v n xs s b w hown (by omega) hbase (by omega) (by omega) (by omega) hso (by omega)
end Go.Proofs.YtoaabebgmdbjeaaGreatDoor
namespace Go.Proofs.YtoaabebgmdbjeaaGreatDoor
open Go.RowKit
def mE (w:World) (s:U.St) (l:List Int) (e:Ending) (w':World):Prop:=
 ∃v',e=.returned (.tuple #[s.val,v'])/\w'.ownsRow w.heap.size 21 1 v' l.length (DV l)/\Below w.heap.size w w'
theorem ZL (s:U.St) (b:Int) (w:World) (h0:0<=b) (h1:b<256) (hso:s.ok):
  Calls Tryz.prog 202 #[s.val,.int .u8 b] w (mE w (U.it s b).1 (U.it s b).2):=by
 have ci:=fun w' hb=>ZK w.heap.size (.slice none 0 0) 0 [] s b w' (World.ownsRow_nil _ _ _ _) (by omega) hb h0 h1 hso
 generalize U.it s b=r at ci⊢
 obtain⟨⟨q0,q1,q2⟩,l⟩:=r
 obtain⟨sn,sh,sa⟩:=s
 simp only [U.St.val] at ci⊢
 clear hso
 have CI:=hide ci
 clear ci
 go_enter Tryz.func202,Tryz.ntmps202
 go_wp2_with (go_at_call 213;go_must (refine(CI.out _ (by simp;omega)).mono ?_);rintro e w1 ⟨v',rfl,hown1,hg1,hm1⟩;have hbx:=(Box.new (w.alloc (.cells #[.int .i64 sn,.int .i64 sh,.int .i64 sa] 95)) 95 #[.int .i64 0,.int .i64 0,.int .i64 0]).grown hg1 (by simp [Value.ownBlock]);rw [World.size_alloc] at hbx;obtain⟨k0,k1,k2,k3,k4,k5⟩:=hbx.three)
 refine bodyPost_ret (v:=.tuple #[.agg #[.int .i64 q0,.int .i64 q1,.int .i64 q2],v']) (by simp [results,Tryz.results202,go_sem,k0,k1,k2]) rfl ⟨v',rfl,?_⟩
 have R:=step_end (n:=0) (zs:= []) (.int .i64 q0) (.int .i64 q1) (.int .i64 q2) (by decide) hbx (DU (World.grownBy_alloc w _ _) _) (by omega) hown1 hg1 hm1 rfl rfl
 exact⟨by simpa [DV] using R.1,Dh R.2.1 (Nat.le_refl _) (by simp [Value.ownBlock])⟩
end Go.Proofs.YtoaabebgmdbjeaaGreatDoor
namespace Go.Proofs.YtoaabebgmdbjeaaGreatDoor
open Go.RowKit
def G6:Array Value:=((List.range 24).flatMap fun k=> [Value.int .u8 (PA.Fw k),Value.int .u8 (PA.KL k)]).toArray
def Io:Array Value:=(PA.tab.map (Value.int .u8)).toArray
structure F9 (w:World):Prop where
 runs: ∃t,w.heap[5]? =some (.cells G6 t (0,0))
 moves: ∃t,w.heap[2]? =some (.cells Io t (0,0))
theorem F9.below {w w':World} {B:Nat} (h:F9 w) (hb:Below B w w') (hB:6<=B):F9 w':=by
 obtain⟨⟨t,h⟩,⟨u,k⟩⟩:=h
 exact⟨⟨t,(hb.block _ (by omega)).trans h⟩,⟨u,(hb.block _ (by omega)).trans k⟩⟩
theorem F9.lt {w:World} (h:F9 w):6<=w.heap.size:=by
 obtain⟨⟨t,h⟩,⟨u,k⟩⟩:=h
 have a:=(Array.getElem?_eq_some_iff.1 h).1
 have b:=(Array.getElem?_eq_some_iff.1 k).1
 omega
theorem F9.keep {w w':World} (h:F9 w) (hb:Below w.heap.size w w'):F9 w':=h.below hb h.lt
theorem pq:Tryz.prog.globalNamed "linguist/parse.runs" =some 5:=by kernel_rfl
theorem p8:(Tryz.prog.globals[5]?).map (·.type)=some 199:=by kernel_rfl
theorem WR:tiled Tryz.prog 4 199=true:=by kernel_rfl
theorem ZM:flat (H:=Unit) Rows.laid_linguist_parse_runs=some G6.toList:=by kernel_rfl
theorem mF:Tryz.prog.globalNamed "linguist/parse.moves" =some 2:=by kernel_rfl
theorem mG:(Tryz.prog.globals[2]?).map (·.type)=some 179:=by kernel_rfl
theorem TD:tiled Tryz.prog 4 179=true:=by kernel_rfl
theorem WS:flat (H:=Unit) Rows.laid_linguist_parse_moves=some Io.toList:=by kernel_rfl
theorem WT {w:World} {l:List (String × DataW Unit)} (h:laidMet Tryz.prog l w) (hm:("linguist/parse.runs",Rows.laid_linguist_parse_runs)∈l) (hm':("linguist/parse.moves",Rows.laid_linguist_parse_moves)∈l):F9 w:=by
 obtain⟨t,ht⟩:=Db 4 pq p8 WR ZM (by rw [show G6.toList.length=48 from by kernel_rfl];omega) h hm
 obtain⟨u,hu⟩:=Db 4 mF mG TD WS (by rw [show Io.toList.length=208 from by kernel_rfl];omega) h hm'
 exact⟨⟨t,by simpa using ht⟩,⟨u,by simpa using hu⟩⟩
theorem WU (w:World) (k:Nat) (hk:k<24):(Instr.index 199 (.agg G6) (.int .i64 (k:Int))).run Tryz.prog w=.ok (.agg #[.int .u8 (PA.Fw k),.int .u8 (PA.KL k)]) w:=by
 obtain rfl | rfl | rfl | rfl | rfl | rfl | rfl | rfl | rfl | rfl | rfl | rfl | rfl | rfl | rfl | rfl | rfl | rfl | rfl | rfl | rfl | rfl | rfl | rfl:k=0\/k=1\/k=2\/k=3\/k=4\/k=5\/k=6\/k=7\/k=8\/k=9\/k=10\/k=11\/k=12\/k=13\/k=14\/k=15\/k=16\/k=17\/k=18\/k=19\/k=20\/k=21\/k=22\/k=23:=by omega
 all_goals kernel_rfl
theorem WV:(Tryz.prog.info? 199).map (·.size)=some G6.size:=by kernel_rfl
theorem WW {w:World} (h:F9 w) (st c:Int) (h0:0<=st) (h1:st<13) (h2:0<=c) (h3:c<16):w.cell? ⟨2,st.toNat*16+c.toNat,none⟩=some (.int .u8 (PA.cellAt st c)):=by
 obtain⟨t,h⟩:=h.moves
 rw [cell_of_row w _ (st.toNat*16+c.toNat) _ t (0,0) h]
 have hl:st.toNat*16+c.toNat<PA.tab.length:=by
  rw [show PA.tab.length=208 from by kernel_rfl]
  omega
 unfold Io PA.cellAt
 rw [List.getElem?_toArray,List.getElem?_map,List.getElem?_eq_getElem hl,List.getD_eq_getElem?_getD,List.getElem?_eq_getElem hl]
 rfl
theorem QX (b:Int) (w:World) (h0:0<=b) (h1:b<256) (hs:F9 w):Calls Tryz.prog 174 #[.int .u8 b] w fun e w'=>e=.returned (.int .u8 (PA.cls b))/\Below w.heap.size w w':=by
 obtain⟨⟨tt,hg⟩,_⟩:=hs
 have SI:=hide WU
 have SC:=hide WV
 generalize hcs:G6=cs at hg SI SC
 clear hcs
 have hp:=PA.ME b
 go_enter Tryz.func174,Tryz.ntmps174
 go_wp2_with (refine wpList_load_row rfl 199 _ rfl 5 rfl tt cs (0,0) _ hg Tryz.underlying199 rfl SC.out ?_)
 go_loopw [6] (fun i wr=> ∃k:Nat,k<=PA.place b/\i=.int .i64 k/\Below w.heap.size w wr) (fun i _=>24-(intOf i).toNat)
 case atStart=>exact⟨0,by omega,rfl,Below.refl _ _⟩
 case round=>
  obtain⟨k,hk,rfl,hbel⟩:=hrel
  have hsz:=hbel.size
  obtain hlt | rfl:k<24\/k=24:=by omega
  ·have si:=fun w'=>SI.out w' k hlt
   obtain hx | hx:k=PA.place b\/k<PA.place b:=by omega
   ·have hle:b<=PA.Fw k:=by
     rw [hx]
     exact PA.ZA h0 h1 (by omega)
    have E:=hide (show PA.KL k=PA.cls b by unfold PA.cls;rw [<- hx])
    generalize PA.KL k=y at si E
    generalize PA.Fw k=x at si hle
    clear hx hp hk
    go_wp2
    go_ret
    exact⟨CV E.out,hbel.alloc hsz _⟩
   ·have hle:PA.Fw k<b:=PA.Bt h0 h1 hx
    have hle': ¬b<=PA.Fw k:=by omega
    generalize PA.KL k=y at si
    generalize PA.Fw k=x at si hle hle'
    go_wp2
    go_roundw
    case rel=>exact⟨k+1,by omega,by go_num,hbel.alloc hsz _⟩
    case measure=>simp [intOf];omega
  ·have E:=hide (PA.ZB (b:=b) (by omega))
   go_wp2
   go_ret
   exact⟨CV E.out.symm,hbel⟩
end Go.Proofs.YtoaabebgmdbjeaaGreatDoor
namespace Go.Proofs.YtoaabebgmdbjeaaGreatDoor
open Go.RowKit
theorem p9 (b:Int) (h0:0<=b) (h1:b<256):bits .and .u8 b 15=b%16:=
 U.Dl (p:=fun b=>bits .and .u8 b 15=b%16) (by decide+kernel) b h0 h1
theorem ZN (b:Int) (h0:0<=b) (h1:b<256):bits .andNot .u8 b 15=b-b%16:=
 U.Dl (p:=fun b=>bits .andNot .u8 b 15=b-b%16) (by decide+kernel) b h0 h1
theorem qA {k:IntKind} {a b a' b':Int} (h:a=a') (h':b=b'):Ending.returned (.tuple #[.int k a,.int k b])=.returned (.tuple #[.int k a',.int k b']):=by rw [h,h']
theorem MP (st b:Int) (w:World) (s0:1<=st) (s1:st<=12) (h0:0<=b) (h1:b<256) (hs:F9 w):
  Calls Tryz.prog 141 #[.int .u8 st,.int .u8 b] w fun e w'=>e=.returned (.tuple #[.int .u8 (PA.act st b),.int .u8 (PA.nxt st b)])/\Below w.heap.size w w':=by
 have CC:=hide (fun w' h=>QX b w' h0 h1 h)
 have cb:=PA.lV b h0 h1
 have mb:=PA.pV st b s0 s1 h0 h1
 have lt:2<w.heap.size:=by have:=hs.lt;omega
 have MC:=WW hs st (PA.cls b) (by omega) (by omega) cb.1 cb.2
 rw [show PA.cellAt st (PA.cls b)=PA.mv st b from rfl] at MC
 have EA:=hide (show PA.mv st b-PA.mv st b%16=PA.act st b from rfl)
 have EN:=hide (show PA.nxt st b=if PA.mv st b%16=0 then st else PA.mv st b%16 from rfl)
 have a1:=p9 _ mb.1 mb.2
 have a2:=ZN _ mb.1 mb.2
 generalize PA.act st b=ac at EA⊢
 generalize PA.nxt st b=nx at EN⊢
 generalize PA.mv st b=m at mb MC EA EN a1 a2
 generalize PA.cls b=c at CC cb MC
 have HS:=hide hs
 have R0: ∀w',BQ w w'->w'.cell? ⟨2,st.toNat*16+c.toNat,none⟩=some (.int .u8 m):=fun w' h=>(h.cell (by simpa using lt)).trans MC
 have hd:BQ w w.drew:=(Below.refl _ _).drew
 have s2:0<=st:=by omega
 have s3:st<13:=by omega
 have c0:=cb.1
 have c1:=cb.2
 have cs:(m%16==0)=true/\nx=st\/(m%16==0)=false/\nx=m%16:=by
  have:=EN.out
  by_cases h:m%16=0
  ·rw [if_pos h] at this
   exact .inl ⟨by simpa using h,this⟩
  ·rw [if_neg h] at this
   exact .inr ⟨by simpa using h,this⟩
 clear MC hs EN cb
 rcases cs with ⟨h,e⟩ | ⟨h,e⟩
 all_goals
  have E:=hide e
  clear e
  go_enter Tryz.func141,Tryz.ntmps141
  go_wp2_with fail
  go_region_held3 (fun w'=>BQ w w')
   (first | with_reducible exact hd | with_reducible exact hC.out)
   (first | (go_at_call 174;refine(CC.out _ (HS.out.keep (show BQ w _ from by assumption))).mono ?_;rintro e wC ⟨rfl,bb⟩;have hC:=Lib.hid (BQ.call (by assumption) bb)))
  go_wp2_with fail
  go_ret2
  exact⟨qA EA.out E.out.symm,show BQ w _ from by assumption⟩
end Go.Proofs.YtoaabebgmdbjeaaGreatDoor
