/- A part of the proof: UtfEncode, RefSpec, RefDecode, RefHighAny, RefParseAny. -/
import Derived.Test.YtoaabebgmdbjeaaGreatDoorSb26
set_option maxRecDepth 100000
set_option maxHeartbeats 16000000
set_option linter.unusedVariables false
namespace Go.Proofs.YtoaabebgmdbjeaaGreatDoor
open Go.RowKit
theorem IC (base:Nat) (v:Value) (n:Nat) (xs:List Value) (r:Int) (w:World) (hown:w.ownsRow base 5 1 v n xs) (hn:n<=1099511627772) (hbase:base<=w.heap.size) (hr:U.isR r=true) (h:0<=r/\r<128):
  Calls Tryz.prog 188 #[v,.int .i32 r] w (RI base 5 w v n xs (u8s (U.en r)) fun v'=>v'):=by
 obtain⟨i0,hi,hz0,hz1,hz2⟩:=info_parts K5
 have he:U.en r= [r] :=by unfold U.en;repeat(first | rw [if_pos (by omega)] | rw [if_neg (by omega)])
 rw [he]
 clear he
 have CI:=hide (MO r)
 have CS:=hide (QW r)
 have CT:=hide bG
 go_enter Tryz.func188,Tryz.ntmps188
 go_wp2_with (first
  | (go_at_call 204;go_must (refine(CI.out _).mono ?_);rintro e w' ⟨rfl,rfl⟩;rw [hr])
  | (go_at_call 205;go_must (refine(CS.out _).mono ?_);rintro e w' ⟨rfl,rfl⟩;rw [show U.sz r=1 from by unfold U.sz;repeat(first | rw [if_pos (by omega)] | rw [if_neg (by omega)])])
  | (go_at_call 206;go_must (refine(CT.out _ _).mono ?_);rintro e w' ⟨rfl,rfl⟩)
  | (at_builtin;go_must (refine Pf rfl (.tmp 13) (.tmp 16) 30 rfl base 5 i0 _ 1 Tryz.underlying30 hi hz0 hz1 hz2 rfl v n xs rfl hown _ _ _ 1 rfl rfl (by simp) (by simp [Value.oneCell']) (by omega) (by omega) hbase ?_);intro v' w1 hown1 hg1 hm1))
 go_ret
 exact⟨v',rfl,hown1,hg1,hm1⟩
end Go.Proofs.YtoaabebgmdbjeaaGreatDoor
namespace Go.Proofs.YtoaabebgmdbjeaaGreatDoor.U
def Head (l:List Int) (k:Nat) (out:List Int):Prop:=
 (k=l.length->dec z l=(z,out))/\ ∀x,l[k]? =some x->dec z (l.take (k+1))=((bg x).1,out++(bg x).2)
theorem take_snoc' {l:List Int} {k:Nat} {x:Int} (hx:l[k]? =some x):l.take k++ [x] =l.take (k+1):=by rw [List.take_add_one,hx];rfl
theorem KZ {l:List Int} {k:Nat} {out:List Int} (h:dec z (l.take k)=(z,out)):Head l k out:=by
 refine⟨fun e=>?_,fun x hx=>?_⟩
 ·rwa [e,List.take_length] at h
 ·have:=LQ z (l.take k) x
  rw [take_snoc' hx,h] at this
  rw [this]
  rfl
theorem Xp (l:List Int):Head l 0 [] :=KZ (by simp [dec])
theorem bH {l:List Int} {k:Nat} {out:List Int} (h:Head l k out) (hk:k=l.length):dec z l=(z,out):=h.1 hk
theorem Mw {l:List Int} {k:Nat} {out:List Int} {x r:Int} (h:Head l k out) (hx:l[k]? =some x) (hb:bg x=(z, [r])):Head l (k+1) (out++ [r]):=by
 have:=h.2 x hx
 rw [hb] at this
 exact KZ this
structure Mid (l:List Int) (k m h:Nat) (n:Int) (out:List Int):Prop where
 held:h<=m->dec z (l.take (k+h))=(⟨(m:Int)+1,h,n⟩,out)
 done:h=m+1->dec z (l.take (k+h))=(z,out++ [wh ((m:Int)+1) n])
 n0:0<=n
 n1:h=1->n<2 ^ (6-m)
 n2:h=2->n<2 ^ (12-m)
 n3:h=3->n<2 ^ (18-m)
 n4:h=4->n<2 ^ (24-m)
theorem mid_step {l:List Int} {k m h:Nat} {n y:Int} {out:List Int} (H:Mid l k m h n out) (h1:1<=h) (hm:h<=m) (hm3:m<=3) (hy:l[k+h]? =some y) (y0:128<=y) (y1:y<192):
  Mid l k m (h+1) (n*64+(y-128)) out:=by
 have hd:=LQ z (l.take (k+h)) y
 rw [take_snoc' hy,H.held hm] at hd
 have hi:it ⟨(m:Int)+1,h,n⟩ y=if (h:Int)+1<(m:Int)+1 then (⟨(m:Int)+1,(h:Int)+1,n*64+(y-128)⟩, []) else (z, [wh ((m:Int)+1) (n*64+(y-128))]):=by
  unfold it
  rw [if_neg (show¬((m:Int)+1<=0) by omega),if_neg (by omega)]
 rw [hi] at hd
 have g1:=H.n0
 have g2:=H.n1
 have g3:=H.n2
 have g4:=H.n3
 have hc:m=1\/m=2\/m=3:=by omega
 refine⟨fun e=>?_,fun e=>?_,by omega,fun e=>by omega,fun e=>?_,fun e=>?_,fun e=>?_⟩
 ·rw [if_pos (by omega)] at hd
  rw [show k+(h+1)=k+h+1 from rfl,hd]
  simp
 ·rw [if_neg (by omega)] at hd
  rw [show k+(h+1)=k+h+1 from rfl,hd]
 ·have:=g2 (by omega)
  rcases hc with rfl | rfl | rfl<;>simp at this⊢ <;>omega
 ·have:=g3 (by omega)
  rcases hc with rfl | rfl | rfl<;>simp at this⊢ <;>omega
 ·have:=g4 (by omega)
  rcases hc with rfl | rfl | rfl<;>simp at this⊢ <;>omega
theorem Ka {l:List Int} {k m:Nat} {n x:Int} {out:List Int} (h:Head l k out) (hx:l[k]? =some x) (hb:bg x=(⟨(m:Int)+1,1,n⟩, [])) (hm:1<=m) (hn0:0<=n) (hn:n<2 ^ (6-m)):Mid l k m 1 n out:=by
 have:=h.2 x hx
 rw [hb] at this
 exact⟨fun _=>by simpa using this,fun e=>by omega,hn0,fun _=>hn,fun e=>by omega,fun e=>by omega,fun e=>by omega⟩
theorem M4 {l:List Int} {k m h:Nat} {n:Int} {out:List Int} (H:Mid l k m h n out) (hm:h<=m) (hk:k+h=l.length):dec z l=(⟨(m:Int)+1,h,n⟩,out):=by
 have:=H.held hm
 rwa [hk,List.take_length] at this
theorem PV {l:List Int} {k m h:Nat} {n y:Int} {out:List Int} (H:Mid l k m h n out) (hm:h<=m) (hy:l[k+h]? =some y) (hn:y<128\/192<=y):Head l (k+h) (out++ [65533]):=by
 refine⟨fun e=>?_,fun x hx=>?_⟩
 ·have:=(List.getElem?_eq_some_iff.1 hy).1
  omega
 ·rw [hy] at hx
  obtain rfl:=Option.some.inj hx
  have hd:=LQ z (l.take (k+h)) y
  rw [take_snoc' hy,H.held hm] at hd
  rw [hd]
  unfold it
  rw [if_neg (show¬((m:Int)+1<=0) by omega),if_pos hn]
  simp
theorem M5 {l:List Int} {k m h:Nat} {n:Int} {out:List Int} (H:Mid l k m h n out) (hm:h=m+1):Head l (k+h) (out++ [wh ((m:Int)+1) n]):=KZ (H.done hm)
theorem PW {l:List Int} {k m h:Nat} {n:Int} {out:List Int} (H:Mid l k m h n out) (h1:1<=h) (h2:h<=m+1) (hm3:m<=3) (hm1:1<=m):0<=n/\n<2097152/\(h<=m->n<32768)/\(m=1->n<2048)/\(m=2->n<65536):=by
 have g1:=H.n0
 have g2:=H.n1
 have g3:=H.n2
 have g4:=H.n3
 have g5:=H.n4
 have hc:m=1\/m=2\/m=3:=by omega
 have hh:h=1\/h=2\/h=3\/h=4:=by omega
 rcases hc with rfl | rfl | rfl<;>rcases hh with rfl | rfl | rfl | rfl<;>simp at g1 g2 g3 g4 g5⊢ <;>omega
theorem M6 (m:Nat) (n:Int) (hb:n<(if m=1 then 128 else if m=2 then 2048 else 65536)\/1114111<n\/(55296<=n/\n<=57343)) (hm:1<=m/\m<=3):wh ((m:Int)+1) n=65533:=by
 unfold wh
 refine if_neg fun ⟨h1,h2⟩=>?_
 simp [isR] at h1
 unfold sz at h2
 have hc:m=1\/m=2\/m=3:=by omega
 rcases hc with rfl | rfl | rfl<;>simp at hb h2<;>(repeat' split at h2)<;>omega
theorem LH (m:Nat) (n:Int) (h0:(if m=1 then 128 else if m=2 then 2048 else 65536)<=n) (h1:n<=1114111) (h2:n<55296\/57343<n) (hm:1<=m/\m<=3) (t1:m=1->n<2048) (t2:m=2->n<65536):wh ((m:Int)+1) n=n:=by
 unfold wh
 have hc:m=1\/m=2\/m=3:=by omega
 refine if_pos ⟨?_,?_⟩
 ·simp [isR]
  rcases hc with rfl | rfl | rfl<;>simp at h0<;>omega
 ·unfold sz
  rcases hc with rfl | rfl | rfl<;>simp at h0 t1 t2⊢ <;>(repeat' split)<;>omega
theorem UK (b:Int) (h0:0<=b) (h1:b<256):bits .and .u8 b 192=b-b%64:=
 Dl (p:=fun b=>bits .and .u8 b 192=b-b%64) (by decide+kernel) b h0 h1
end Go.Proofs.YtoaabebgmdbjeaaGreatDoor.U
namespace Go.Proofs.YtoaabebgmdbjeaaGreatDoor
open Go.RowKit
def M7 (w:World) (l:List Int) (e:Ending) (w':World):Prop:=
 ∃(v:Value) (left:Int),e=.returned (.tuple #[v,.int .i64 left])/\(0<left<->0<(U.dec U.z l).1.need)/\w'.ownsRow w.heap.size 21 1 v (U.dec U.z l).2.length (DV (U.dec U.z l).2)/\Below w.heap.size w w'
set_option maxRecDepth 100000 in
theorem NK (A:Option Addr) (n c:Nat) (l:List Int) (w:World) (hA:Seen w w.heap.size A n (u8s l)) (hl: ∀x∈l,0<=x/\x<256) (hn:n<=274877906944):
  Calls Tryz.prog 107 #[.slice A n c] w (M7 w l):=by
 obtain⟨i0,hi,hz0,hz1,hz2⟩:=info_parts H6
 have hlen:l.length=n:=by simpa [u8s] using hA.1
 have HA:=hide hA
 have HL:=hide hl
 have HN:=hide hlen
 clear hA hl hlen
 go_enter Tryz.func107,Tryz.ntmps107
 go_wp2_with fail
 go_loopw [4,5] (fun v a wr=> ∃(k:Nat) (out:List Int),k<=n/\a=.int .i64 k/\out.length<=k/\wr.ownsRow w.heap.size 21 1 v out.length (DV out)/\U.Head l k out/\Below w.heap.size w wr)
  (fun _ a _=>n-(intOf a).toNat)
 case atStart=>exact⟨0, [],Nat.zero_le _,rfl,Nat.le_refl _,World.ownsRow_nil _ _ _ _,U.Xp l,Below.refl _ _⟩
 case round=>
  obtain⟨k,out,hk,rfl,hol,hown,hhd,b0⟩:=hrel
  by_cases hlt:k<n
  ·obtain⟨ad,u,rfl,_,hu,hc⟩:=(HA.out.below b0).at_ hlt
   rw [u8s,List.getElem?_map] at hu
   obtain⟨x,hx,rfl⟩:=Option.map_eq_some_iff.1 hu
   have hxr:=HL.out x (List.mem_of_getElem? hx)
   have HH:=hide hhd
   have HX:=hide hx
   clear hu hx hhd
   have cs:x<128\/(128<=x/\x<194)\/244<x\/(194<=x/\x<=223)\/(224<=x/\x<=239)\/(240<=x/\x<=244):=by omega
   rcases cs with c | c | c | c | c | c
   ·have hb:U.bg x=(U.z, [x]):=by unfold U.bg;repeat(first | rw [if_pos (by omega)] | rw [if_neg (by omega)])
    have HH2:=hide (U.Mw HH.out HX.out hb)
    clear hb
    go_wp2_with (at_builtin;go_must (refine BM rfl (.tmp 27) (.tmp 30) 84 rfl w.heap.size 21 i0 _ 4 Tryz.underlying84 hi hz0 hz1 hz2 rfl u4 _ _ rfl hown _ _ _ rfl (by first | rfl | simp) rfl (by omega) (by omega) (by first | exact b0.size | (have:=b0.size;simp;omega)) ?_);intro v' w1 hown1 hg1 hm1)
    go_roundw
    case rel=>exact⟨k+1,out++ [x],by omega,by go_num,by simp;omega,by simpa [DV] using hown1,HH2.out,b0.grown hg1 b0.size (fun g hg=>(hown.lt g hg).1)⟩
    case measure=>simp [intOf];omega
   ·have hb:U.bg x=(U.z, [65533]):=by unfold U.bg;repeat(first | rw [if_pos (by omega)] | rw [if_neg (by omega)])
    have HH2:=hide (U.Mw HH.out HX.out hb)
    clear hb
    go_wp2_with (at_builtin;go_must (refine BM rfl (.tmp 19) (.tmp 20) 84 rfl w.heap.size 21 i0 _ 4 Tryz.underlying84 hi hz0 hz1 hz2 rfl u4 _ _ rfl hown _ _ _ rfl (by first | rfl | simp) rfl (by omega) (by omega) (by first | exact b0.size | (have:=b0.size;simp;omega)) ?_);intro v' w1 hown1 hg1 hm1)
    go_roundw
    case rel=>exact⟨k+1,out++ [65533],by omega,by go_num,by simp;omega,by simpa [DV] using hown1,HH2.out,b0.grown hg1 b0.size (fun g hg=>(hown.lt g hg).1)⟩
    case measure=>simp [intOf];omega
   ·have hb:U.bg x=(U.z, [65533]):=by unfold U.bg;repeat(first | rw [if_pos (by omega)] | rw [if_neg (by omega)])
    have HH2:=hide (U.Mw HH.out HX.out hb)
    clear hb
    go_wp2_with (at_builtin;go_must (refine BM rfl (.tmp 19) (.tmp 20) 84 rfl w.heap.size 21 i0 _ 4 Tryz.underlying84 hi hz0 hz1 hz2 rfl u4 _ _ rfl hown _ _ _ rfl (by first | rfl | simp) rfl (by omega) (by omega) (by first | exact b0.size | (have:=b0.size;simp;omega)) ?_);intro v' w1 hown1 hg1 hm1)
    go_roundw
    case rel=>exact⟨k+1,out++ [65533],by omega,by go_num,by simp;omega,by simpa [DV] using hown1,HH2.out,b0.grown hg1 b0.size (fun g hg=>(hown.lt g hg).1)⟩
    case measure=>simp [intOf];omega
   ·have hb:U.bg x=(⟨((1:Nat):Int)+1,1,x-192⟩, []):=by(unfold U.bg;repeat(first | rw [if_pos (by omega)] | rw [if_neg (by omega)]));rfl
    have em:=LM 5 (by omega) x
    simp at em
    have em':bits .and .i64 x 31=x-192:=by omega
    have hN:0<=x-192/\x-192<32:=by omega
    clear em
    generalize x-192=N0 at hb em' hN
    have MID:=hide (U.Ka HH.out HX.out hb (by omega) hN.1 (by simpa using hN.2))
    clear hb
    have q0:decide (x<128)=false:=by simp;omega
    have q1:decide (194<=x)=true:=by simp;omega
    have q2:decide (x<=223)=true:=by simp;omega
    go_wp2_with fail
    go_loop [6,8] (fun nv hv=> ∃(h:Nat) (n':Int),1<=h/\h<=2/\k+h<=n/\nv=.int .i64 n'/\hv=.int .i64 h/\U.Mid l k 1 h n' out) (fun _ hv=>2-(intOf hv).toNat)
    case atStart=>exact⟨1,N0,by omega,by omega,by omega,rfl,rfl,MID.out⟩
    case round=>
     obtain⟨h,n',h1,h2,h3,rfl,rfl,hmid⟩:=hrel
     have ht:=U.PW hmid h1 h2 (by omega) (by omega)
     have HM:=hide hmid
     clear hmid
     by_cases a1:h<=1
     ·by_cases a2:k+h<n
      ·obtain⟨ad2,u2,e2,_,hu2,hc2⟩:=(HA.out.below b0).at_ a2
       obtain rfl:=Option.some.inj e2
       rw [u8s,List.getElem?_map] at hu2
       obtain⟨y,hy,rfl⟩:=Option.map_eq_some_iff.1 hu2
       have hyr:=HL.out y (List.mem_of_getElem? hy)
       have HY:=hide hy
       clear hu2 hy e2
       have f1:=U.UK y hyr.1 hyr.2
       have f2:=U.Pg y hyr.1 hyr.2
       by_cases a3:128<=y/\y<192
       ·have f1':bits .and .u8 y 192=128:=by omega
        have f2':bits .and .u8 y 63=y-128:=by omega
        have f3:=Ez 6 (n'*64) (y-128) (by omega) (by omega) (by omega) (by omega) (by omega)
        have HM2:=hide (U.mid_step HM.out h1 a1 (by omega) HY.out a3.1 a3.2)
        clear f1 f2
        go_wp2_with fail
        go_round
        case rel=>exact⟨h+1,n'*64+(y-128),by omega,by omega,by omega,rfl,by go_num,HM2.out⟩
        case measure=>simp [intOf];omega
       ·have HH2:=hide (U.PV HM.out a1 HY.out (by omega))
        have hc:y-y%64<128\/128<y-y%64:=by omega
        generalize y-y%64=cc at f1 hc
        clear f2
        have hc1:(cc==128)=false:=by simp;omega
        go_wp2_with (at_builtin;go_must (refine BM rfl (.tmp 138) (.tmp 141) 84 rfl w.heap.size 21 i0 _ 4 Tryz.underlying84 hi hz0 hz1 hz2 rfl u4 _ _ rfl (hown.alloc _) _ _ _ rfl (by first | rfl | simp) rfl (by omega) (by omega) (by first | exact b0.size | (have:=b0.size;simp;omega)) ?_);intro v' w1 hown1 hg1 hm1)
        go_roundw
        case rel=>exact⟨k+h,out++ [65533],by omega,by go_num,by simp;omega,by simpa [DV] using hown1,HH2.out,b0.grown (World.grownBy.trans (World.grownBy_alloc _ _ _) hg1) b0.size (fun g hg=>(hown.lt g hg).1)⟩
        case measure=>simp [intOf];omega
      ·have HD:=hide (U.M4 HM.out a1 (by rw [HN.out];omega))
       go_wp2_with fail
       go_ret2
       refine⟨u4,_,rfl,?_,by rw [HD.out];exact hown,b0⟩
       rw [HD.out]
       simp
       omega
     ·obtain rfl:h=2:=by omega
      have HH1:=hide (U.M5 HM.out rfl)
      have cs:(n'<128)\/(128<=n'/\n'<2048):=by omega
      rcases cs with d | d
      ·have HH2:=hide (by have:=HH1.out;rwa [U.M6 1 n' (by simp;omega) (by omega)] at this)
       go_wp2_with (at_builtin;go_must (refine BM rfl (.tmp 138) (.tmp 141) 84 rfl w.heap.size 21 i0 _ 4 Tryz.underlying84 hi hz0 hz1 hz2 rfl u4 _ _ rfl (hown.alloc _) _ _ _ rfl (by first | rfl | simp) rfl (by omega) (by omega) (by first | exact b0.size | (have:=b0.size;simp;omega)) ?_);intro v' w1 hown1 hg1 hm1)
       go_roundw
       case rel=>exact⟨k+2,out++ [65533],by omega,by go_num,by simp;omega,by simpa [DV] using hown1,HH2.out,b0.grown (World.grownBy.trans (World.grownBy_alloc _ _ _) hg1) b0.size (fun g hg=>(hown.lt g hg).1)⟩
       case measure=>simp [intOf];omega
      ·have HH2:=hide (by have:=HH1.out;rwa [U.LH 1 n' (by simp;omega) (by omega) (by omega) (by omega) (by omega) (by omega)] at this)
       go_wp2_with (at_builtin;go_must (refine BM rfl (.tmp 138) (.tmp 141) 84 rfl w.heap.size 21 i0 _ 4 Tryz.underlying84 hi hz0 hz1 hz2 rfl u4 _ _ rfl (hown.alloc _) _ _ _ rfl (by first | rfl | simp) rfl (by omega) (by omega) (by first | exact b0.size | (have:=b0.size;simp;omega)) ?_);intro v' w1 hown1 hg1 hm1)
       go_roundw
       case rel=>exact⟨k+2,out++ [n'],by omega,by go_num,by simp;omega,by simpa [DV] using hown1,HH2.out,b0.grown (World.grownBy.trans (World.grownBy_alloc _ _ _) hg1) b0.size (fun g hg=>(hown.lt g hg).1)⟩
       case measure=>simp [intOf];omega
   ·have hb:U.bg x=(⟨((2:Nat):Int)+1,1,x-224⟩, []):=by(unfold U.bg;repeat(first | rw [if_pos (by omega)] | rw [if_neg (by omega)]));rfl
    have em:=LM 4 (by omega) x
    simp at em
    have em':bits .and .i64 x 15=x-224:=by omega
    have hN:0<=x-224/\x-224<16:=by omega
    clear em
    generalize x-224=N0 at hb em' hN
    have MID:=hide (U.Ka HH.out HX.out hb (by omega) hN.1 (by simpa using hN.2))
    clear hb
    have q0:decide (x<128)=false:=by simp;omega
    have q1:decide (194<=x)=true:=by simp;omega
    have q2:decide (x<=223)=false:=by simp;omega
    have q3:decide (224<=x)=true:=by simp;omega
    have q4:decide (x<=239)=true:=by simp;omega
    go_wp2_with fail
    go_loop [6,8] (fun nv hv=> ∃(h:Nat) (n':Int),1<=h/\h<=3/\k+h<=n/\nv=.int .i64 n'/\hv=.int .i64 h/\U.Mid l k 2 h n' out) (fun _ hv=>3-(intOf hv).toNat)
    case atStart=>exact⟨1,N0,by omega,by omega,by omega,rfl,rfl,MID.out⟩
    case round=>
     obtain⟨h,n',h1,h2,h3,rfl,rfl,hmid⟩:=hrel
     have ht:=U.PW hmid h1 h2 (by omega) (by omega)
     have HM:=hide hmid
     clear hmid
     by_cases a1:h<=2
     ·by_cases a2:k+h<n
      ·obtain⟨ad2,u2,e2,_,hu2,hc2⟩:=(HA.out.below b0).at_ a2
       obtain rfl:=Option.some.inj e2
       rw [u8s,List.getElem?_map] at hu2
       obtain⟨y,hy,rfl⟩:=Option.map_eq_some_iff.1 hu2
       have hyr:=HL.out y (List.mem_of_getElem? hy)
       have HY:=hide hy
       clear hu2 hy e2
       have f1:=U.UK y hyr.1 hyr.2
       have f2:=U.Pg y hyr.1 hyr.2
       by_cases a3:128<=y/\y<192
       ·have f1':bits .and .u8 y 192=128:=by omega
        have f2':bits .and .u8 y 63=y-128:=by omega
        have f3:=Ez 6 (n'*64) (y-128) (by omega) (by omega) (by omega) (by omega) (by omega)
        have HM2:=hide (U.mid_step HM.out h1 a1 (by omega) HY.out a3.1 a3.2)
        clear f1 f2
        go_wp2_with fail
        go_round
        case rel=>exact⟨h+1,n'*64+(y-128),by omega,by omega,by omega,rfl,by go_num,HM2.out⟩
        case measure=>simp [intOf];omega
       ·have HH2:=hide (U.PV HM.out a1 HY.out (by omega))
        have hc:y-y%64<128\/128<y-y%64:=by omega
        generalize y-y%64=cc at f1 hc
        clear f2
        have hc1:(cc==128)=false:=by simp;omega
        go_wp2_with (at_builtin;go_must (refine BM rfl (.tmp 138) (.tmp 141) 84 rfl w.heap.size 21 i0 _ 4 Tryz.underlying84 hi hz0 hz1 hz2 rfl u4 _ _ rfl (hown.alloc _) _ _ _ rfl (by first | rfl | simp) rfl (by omega) (by omega) (by first | exact b0.size | (have:=b0.size;simp;omega)) ?_);intro v' w1 hown1 hg1 hm1)
        go_roundw
        case rel=>exact⟨k+h,out++ [65533],by omega,by go_num,by simp;omega,by simpa [DV] using hown1,HH2.out,b0.grown (World.grownBy.trans (World.grownBy_alloc _ _ _) hg1) b0.size (fun g hg=>(hown.lt g hg).1)⟩
        case measure=>simp [intOf];omega
      ·have HD:=hide (U.M4 HM.out a1 (by rw [HN.out];omega))
       go_wp2_with fail
       go_ret2
       refine⟨u4,_,rfl,?_,by rw [HD.out];exact hown,b0⟩
       rw [HD.out]
       simp
       omega
     ·obtain rfl:h=3:=by omega
      have HH1:=hide (U.M5 HM.out rfl)
      have cs:(n'<2048)\/(55296<=n'/\n'<=57343)\/(2048<=n'/\n'<55296)\/(57343<n'/\n'<65536):=by omega
      rcases cs with d | d | d | d
      ·have HH2:=hide (by have:=HH1.out;rwa [U.M6 2 n' (by simp;omega) (by omega)] at this)
       go_wp2_with (at_builtin;go_must (refine BM rfl (.tmp 138) (.tmp 141) 84 rfl w.heap.size 21 i0 _ 4 Tryz.underlying84 hi hz0 hz1 hz2 rfl u4 _ _ rfl (hown.alloc _) _ _ _ rfl (by first | rfl | simp) rfl (by omega) (by omega) (by first | exact b0.size | (have:=b0.size;simp;omega)) ?_);intro v' w1 hown1 hg1 hm1)
       go_roundw
       case rel=>exact⟨k+3,out++ [65533],by omega,by go_num,by simp;omega,by simpa [DV] using hown1,HH2.out,b0.grown (World.grownBy.trans (World.grownBy_alloc _ _ _) hg1) b0.size (fun g hg=>(hown.lt g hg).1)⟩
       case measure=>simp [intOf];omega
      ·have HH2:=hide (by have:=HH1.out;rwa [U.M6 2 n' (by simp;omega) (by omega)] at this)
       go_wp2_with (at_builtin;go_must (refine BM rfl (.tmp 138) (.tmp 141) 84 rfl w.heap.size 21 i0 _ 4 Tryz.underlying84 hi hz0 hz1 hz2 rfl u4 _ _ rfl (hown.alloc _) _ _ _ rfl (by first | rfl | simp) rfl (by omega) (by omega) (by first | exact b0.size | (have:=b0.size;simp;omega)) ?_);intro v' w1 hown1 hg1 hm1)
       go_roundw
       case rel=>exact⟨k+3,out++ [65533],by omega,by go_num,by simp;omega,by simpa [DV] using hown1,HH2.out,b0.grown (World.grownBy.trans (World.grownBy_alloc _ _ _) hg1) b0.size (fun g hg=>(hown.lt g hg).1)⟩
       case measure=>simp [intOf];omega
      ·have HH2:=hide (by have:=HH1.out;rwa [U.LH 2 n' (by simp;omega) (by omega) (by omega) (by omega) (by omega) (by omega)] at this)
       go_wp2_with (at_builtin;go_must (refine BM rfl (.tmp 138) (.tmp 141) 84 rfl w.heap.size 21 i0 _ 4 Tryz.underlying84 hi hz0 hz1 hz2 rfl u4 _ _ rfl (hown.alloc _) _ _ _ rfl (by first | rfl | simp) rfl (by omega) (by omega) (by first | exact b0.size | (have:=b0.size;simp;omega)) ?_);intro v' w1 hown1 hg1 hm1)
       go_roundw
       case rel=>exact⟨k+3,out++ [n'],by omega,by go_num,by simp;omega,by simpa [DV] using hown1,HH2.out,b0.grown (World.grownBy.trans (World.grownBy_alloc _ _ _) hg1) b0.size (fun g hg=>(hown.lt g hg).1)⟩
       case measure=>simp [intOf];omega
      ·have HH2:=hide (by have:=HH1.out;rwa [U.LH 2 n' (by simp;omega) (by omega) (by omega) (by omega) (by omega) (by omega)] at this)
       go_wp2_with (at_builtin;go_must (refine BM rfl (.tmp 138) (.tmp 141) 84 rfl w.heap.size 21 i0 _ 4 Tryz.underlying84 hi hz0 hz1 hz2 rfl u4 _ _ rfl (hown.alloc _) _ _ _ rfl (by first | rfl | simp) rfl (by omega) (by omega) (by first | exact b0.size | (have:=b0.size;simp;omega)) ?_);intro v' w1 hown1 hg1 hm1)
       go_roundw
       case rel=>exact⟨k+3,out++ [n'],by omega,by go_num,by simp;omega,by simpa [DV] using hown1,HH2.out,b0.grown (World.grownBy.trans (World.grownBy_alloc _ _ _) hg1) b0.size (fun g hg=>(hown.lt g hg).1)⟩
       case measure=>simp [intOf];omega
   ·have hb:U.bg x=(⟨((3:Nat):Int)+1,1,x-240⟩, []):=by(unfold U.bg;repeat(first | rw [if_pos (by omega)] | rw [if_neg (by omega)]));rfl
    have em:=LM 3 (by omega) x
    simp at em
    have em':bits .and .i64 x 7=x-240:=by omega
    have hN:0<=x-240/\x-240<8:=by omega
    clear em
    generalize x-240=N0 at hb em' hN
    have MID:=hide (U.Ka HH.out HX.out hb (by omega) hN.1 (by simpa using hN.2))
    clear hb
    have q0:decide (x<128)=false:=by simp;omega
    have q1:decide (194<=x)=true:=by simp;omega
    have q2:decide (x<=223)=false:=by simp;omega
    have q3:decide (224<=x)=true:=by simp;omega
    have q4:decide (x<=239)=false:=by simp;omega
    have q5:decide (240<=x)=true:=by simp;omega
    have q6:decide (x<=244)=true:=by simp;omega
    go_wp2_with fail
    go_loop [6,8] (fun nv hv=> ∃(h:Nat) (n':Int),1<=h/\h<=4/\k+h<=n/\nv=.int .i64 n'/\hv=.int .i64 h/\U.Mid l k 3 h n' out) (fun _ hv=>4-(intOf hv).toNat)
    case atStart=>exact⟨1,N0,by omega,by omega,by omega,rfl,rfl,MID.out⟩
    case round=>
     obtain⟨h,n',h1,h2,h3,rfl,rfl,hmid⟩:=hrel
     have ht:=U.PW hmid h1 h2 (by omega) (by omega)
     have HM:=hide hmid
     clear hmid
     by_cases a1:h<=3
     ·by_cases a2:k+h<n
      ·obtain⟨ad2,u2,e2,_,hu2,hc2⟩:=(HA.out.below b0).at_ a2
       obtain rfl:=Option.some.inj e2
       rw [u8s,List.getElem?_map] at hu2
       obtain⟨y,hy,rfl⟩:=Option.map_eq_some_iff.1 hu2
       have hyr:=HL.out y (List.mem_of_getElem? hy)
       have HY:=hide hy
       clear hu2 hy e2
       have f1:=U.UK y hyr.1 hyr.2
       have f2:=U.Pg y hyr.1 hyr.2
       by_cases a3:128<=y/\y<192
       ·have f1':bits .and .u8 y 192=128:=by omega
        have f2':bits .and .u8 y 63=y-128:=by omega
        have f3:=Ez 6 (n'*64) (y-128) (by omega) (by omega) (by omega) (by omega) (by omega)
        have HM2:=hide (U.mid_step HM.out h1 a1 (by omega) HY.out a3.1 a3.2)
        clear f1 f2
        go_wp2_with fail
        go_round
        case rel=>exact⟨h+1,n'*64+(y-128),by omega,by omega,by omega,rfl,by go_num,HM2.out⟩
        case measure=>simp [intOf];omega
       ·have HH2:=hide (U.PV HM.out a1 HY.out (by omega))
        have hc:y-y%64<128\/128<y-y%64:=by omega
        generalize y-y%64=cc at f1 hc
        clear f2
        have hc1:(cc==128)=false:=by simp;omega
        go_wp2_with (at_builtin;go_must (refine BM rfl (.tmp 138) (.tmp 141) 84 rfl w.heap.size 21 i0 _ 4 Tryz.underlying84 hi hz0 hz1 hz2 rfl u4 _ _ rfl (hown.alloc _) _ _ _ rfl (by first | rfl | simp) rfl (by omega) (by omega) (by first | exact b0.size | (have:=b0.size;simp;omega)) ?_);intro v' w1 hown1 hg1 hm1)
        go_roundw
        case rel=>exact⟨k+h,out++ [65533],by omega,by go_num,by simp;omega,by simpa [DV] using hown1,HH2.out,b0.grown (World.grownBy.trans (World.grownBy_alloc _ _ _) hg1) b0.size (fun g hg=>(hown.lt g hg).1)⟩
        case measure=>simp [intOf];omega
      ·have HD:=hide (U.M4 HM.out a1 (by rw [HN.out];omega))
       go_wp2_with fail
       go_ret2
       refine⟨u4,_,rfl,?_,by rw [HD.out];exact hown,b0⟩
       rw [HD.out]
       simp
       omega
     ·obtain rfl:h=4:=by omega
      have HH1:=hide (U.M5 HM.out rfl)
      have cs:(n'<65536)\/(1114111<n')\/(65536<=n'/\n'<=1114111):=by omega
      rcases cs with d | d | d
      ·have HH2:=hide (by have:=HH1.out;rwa [U.M6 3 n' (by simp;omega) (by omega)] at this)
       go_wp2_with (at_builtin;go_must (refine BM rfl (.tmp 138) (.tmp 141) 84 rfl w.heap.size 21 i0 _ 4 Tryz.underlying84 hi hz0 hz1 hz2 rfl u4 _ _ rfl (hown.alloc _) _ _ _ rfl (by first | rfl | simp) rfl (by omega) (by omega) (by first | exact b0.size | (have:=b0.size;simp;omega)) ?_);intro v' w1 hown1 hg1 hm1)
       go_roundw
       case rel=>exact⟨k+4,out++ [65533],by omega,by go_num,by simp;omega,by simpa [DV] using hown1,HH2.out,b0.grown (World.grownBy.trans (World.grownBy_alloc _ _ _) hg1) b0.size (fun g hg=>(hown.lt g hg).1)⟩
       case measure=>simp [intOf];omega
      ·have HH2:=hide (by have:=HH1.out;rwa [U.M6 3 n' (by simp;omega) (by omega)] at this)
       go_wp2_with (at_builtin;go_must (refine BM rfl (.tmp 138) (.tmp 141) 84 rfl w.heap.size 21 i0 _ 4 Tryz.underlying84 hi hz0 hz1 hz2 rfl u4 _ _ rfl (hown.alloc _) _ _ _ rfl (by first | rfl | simp) rfl (by omega) (by omega) (by first | exact b0.size | (have:=b0.size;simp;omega)) ?_);intro v' w1 hown1 hg1 hm1)
       go_roundw
       case rel=>exact⟨k+4,out++ [65533],by omega,by go_num,by simp;omega,by simpa [DV] using hown1,HH2.out,b0.grown (World.grownBy.trans (World.grownBy_alloc _ _ _) hg1) b0.size (fun g hg=>(hown.lt g hg).1)⟩
       case measure=>simp [intOf];omega
      ·have HH2:=hide (by have:=HH1.out;rwa [U.LH 3 n' (by simp;omega) (by omega) (by omega) (by omega) (by omega) (by omega)] at this)
       go_wp2_with (at_builtin;go_must (refine BM rfl (.tmp 138) (.tmp 141) 84 rfl w.heap.size 21 i0 _ 4 Tryz.underlying84 hi hz0 hz1 hz2 rfl u4 _ _ rfl (hown.alloc _) _ _ _ rfl (by first | rfl | simp) rfl (by omega) (by omega) (by first | exact b0.size | (have:=b0.size;simp;omega)) ?_);intro v' w1 hown1 hg1 hm1)
       go_roundw
       case rel=>exact⟨k+4,out++ [n'],by omega,by go_num,by simp;omega,by simpa [DV] using hown1,HH2.out,b0.grown (World.grownBy.trans (World.grownBy_alloc _ _ _) hg1) b0.size (fun g hg=>(hown.lt g hg).1)⟩
       case measure=>simp [intOf];omega
  ·obtain rfl:k=n:=by omega
   have hd:=U.bH hhd (by rw [HN.out])
   have HD:=hide hd
   clear hd hhd
   go_wp2
   go_ret2
   exact⟨u4,0,rfl,by rw [HD.out];simp [U.z],by rw [HD.out];exact hown,b0⟩
end Go.Proofs.YtoaabebgmdbjeaaGreatDoor
namespace Go.Proofs.YtoaabebgmdbjeaaGreatDoor
open Go Go.RowKit
theorem bI: ∀(l:List Int) (j:Nat),j<=l.length->(∀y∈l.take j,128<=y)->(∀y,l[j]? =some y->y<128)->PA.run l=l.take j/\PA.past l=l.drop j
 | [],j,hj,_,_=>by
  obtain rfl:j=0:=by simpa using hj
  exact⟨rfl,rfl⟩
 | x::l,0,_,_,h=>by
  have hx:=h x rfl
  unfold PA.run PA.past
  rw [List.takeWhile_cons_of_neg (by simp;omega),List.dropWhile_cons_of_neg (by simp;omega)]
  exact⟨rfl,rfl⟩
 | x::l,j+1,hj,h1,h2=>by
  have hx:=h1 x (by simp)
  obtain⟨e1,e2⟩:=bI l j (by simpa using hj) (fun y hy=>h1 y (by simp [hy])) (fun y hy=>h2 y (by simpa using hy))
  unfold PA.run at e1⊢
  unfold PA.past at e2⊢
  rw [List.takeWhile_cons_of_pos (by simp;omega),List.dropWhile_cons_of_pos (by simp;omega),e1,e2]
  exact⟨rfl,rfl⟩
def HRel (w0 w:World) (B g n c:Nat) (A:Option Addr) (k base:Nat) (es:List PA.Ev) (rs:List Int) (vr v:Value) (i:Nat) (wr:World):Prop:=
 ∃(v':Value) (M:List (PA.Ev × Value)),M.map (·.1)=es++(rs.take i).map PA.pr/\SB w0 w B g n c A (k:Int) v v' M wr/\wr.ownsRow base 21 1 vr rs.length (DV rs)
theorem bJ (w0 w:World) (B g n c:Nat) (A:Option Addr) (b l:List Int) (es:List PA.Ev) (v:Value) (hB:B<=g) (hBw:B<=w0.heap.size) (hbn:b.length=n) (hA:Seen w0 B A n (u8s b)) (hb: ∀x∈b,0<=x/\x<256) (hn:n<=100000) (hnc:n<=c) (x:Int) (l0:List Int) (hl0:l=x::l0) (h128:128<=x) (H:RAt w0 w B g n c A b l es v v w):
  Calls Tryz.prog 61 #[.pointer (some ⟨g,0,none⟩)] w fun e w'=> ∃v',e=.returned (.tuple #[])/\RAt w0 w B g n c A b (PA.past l) (es++PA.hi l) v v' w':=by
 obtain⟨i0,hi,hz0,hz1,hz2⟩:=info_parts Cq
 obtain⟨k,M0,hkn0,hdl,hM,hln,hsb⟩:=H
 have hll:l.length+k=n:=by rw [<- hdl,List.length_drop,hbn];omega
 have hkn:k<n:=by rw [hl0,List.length_cons] at hll;omega
 have hlow:=hsb.low
 obtain⟨ad0,_,hA0,_⟩:=hA.at_ hkn
 subst hA0
 have HA:=hide (fun (w':World) (hb:Below w.heap.size w w')=>(hA.below hlow).below (hb.mono (hsb.size hBw)))
 have hBs:=hsb.size hBw
 have HB0:=hide (show b[k]? =some x by have:=congrArg (·[0]?) hdl;rw [hl0] at this;simpa using this)
 have HBB:=hide hb
 have HDL:=hide hdl
 have HM:=hide hM
 have HS:=hide hsb
 have HLN:=hide hln
 obtain⟨k0,k1,k2,f0,f1,f2⟩:=hsb.box.three
 have DEC:=hide (fun (e:Nat) (w':World) (ix:Below w.heap.size w w') (hke:k<=e) (hen:e<=n)=>(show Calls Tryz.prog 107 #[.slice (if c=k then some ad0 else (some ad0).map (·.add k)) (e-k) (c-k)] w' (M7 w' ((b.drop k).take (e-k))) from by
  refine NK _ (e-k) (c-k) _ w' ?_ (fun y hy=>hb y (List.mem_of_mem_drop (List.mem_of_mem_take hy))) (by omega)
  have hs:=(((HA.out w' ix).more (by have:=ix.size;omega:B<=w'.heap.size)).drop (k:=k) (cap:=c) (by omega) hnc)
  have hs2:=Seen.take (k:=e-k) hs (by omega)
  simpa [u8s,List.map_drop,List.map_take] using hs2))
 have hck: ¬c=k:=by omega
 clear hA hb hM hsb hdl hlow hln hl0
 go_enter Tryz.func61,Tryz.ntmps61
 go_wp2_with fail
 go_loopw [2] (fun x wr=> ∃e:Nat,k<=e/\e<=n/\x=.int .i64 (e:Nat)/\Hid (∀y∈(b.drop k).take (e-k),128<=y)/\wr=w) (fun x _=>n-(intOf x).toNat)
 case atStart=>exact⟨k,Nat.le_refl _,hkn0,rfl,hide (by simp),rfl⟩
 case round=>
  obtain⟨e,hke,hen,rfl,HR,rfl⟩:=hrel
  by_cases hgo:e<n/\ ∀y,b[e]? =some y->128<=y
  ·obtain⟨hlt,hy⟩:=hgo
   obtain⟨ad,u,hA1,_,hu,hc⟩:=(HA.out _ (Below.refl _ _)).at_ hlt
   cases hA1
   rw [u8s,List.getElem?_map] at hu
   obtain⟨y,hy1,rfl⟩:=Option.map_eq_some_iff.1 hu
   have hy2:=hy y hy1
   have hi0:(0:Int)<=(e:Int):=by omega
   have hi1:(e:Int)<(n:Int):=by omega
   have HNEW:=hide (show∀y∈(b.drop k).take (e+1-k),128<=y from by
    rw [show e+1-k=(e-k)+1 by omega,List.take_add_one]
    intro z hz
    rcases List.mem_append.1 hz with hz | hz
    ·exact HR.out z hz
    ·rw [List.getElem?_drop,show k+(e-k)=e by omega,hy1] at hz
     simp at hz
     omega)
   clear hu hy hy1
   go_wp2_with fail
   go_roundw
   case rel=>exact⟨e+1,by omega,by omega,by go_num,HNEW,by first | trivial | rfl⟩
   case measure=>simp [intOf];omega
  have jm:=hide (show∀y,(b.drop k)[e-k]? =some y->y<128 from fun y hy=>by
   rw [List.getElem?_drop,show k+(e-k)=e by omega] at hy
   have hlt:e<n:=by have:=(List.getElem?_eq_some_iff.1 hy).1;omega
   by_cases h:y<128
   ·exact h
   ·exact absurd ⟨hlt,fun z hz=>by rw [hy] at hz;cases hz;omega⟩ hgo)
  have oK:=hide (bI (b.drop k) (e-k) (by rw [List.length_drop,hbn];omega) HR.out jm.out)
  have hek:k<e:=by
   by_cases h:k<e
   ·exact h
   ·exfalso
    obtain rfl:e=k:=by omega
    have:=jm.out x (by rw [List.getElem?_drop,show e+(e-e)=e by omega];exact HB0.out)
    omega
  go_upto_region 1 with fail
  go_cut [27] from 11 to 27 (fun u wx=>u=.bool false/\wx=wr)
  case first=>
   by_cases hlt:e<n
   ·obtain⟨ad,u,hA1,_,hu,hc⟩:=(HA.out _ (Below.refl _ _)).at_ hlt
    cases hA1
    rw [u8s,List.getElem?_map] at hu
    obtain⟨y,hy1,rfl⟩:=Option.map_eq_some_iff.1 hu
    have hy2:y<128:=jm.out y (by rw [List.getElem?_drop,show k+(e-k)=e by omega];exact hy1)
    have hi0:(0:Int)<=(e:Int):=by omega
    have hi1:(e:Int)<(n:Int):=by omega
    clear hu hy1 hgo
    go_wp2_with fail
    go_meet
    exact⟨by first | rfl | (simp;omega),by first | trivial | rfl⟩
   ·have hi1: ¬(e:Int)<(n:Int):=by omega
    clear hgo
    go_wp2_with fail
    go_meet
    exact⟨by first | rfl | (simp;omega),by first | trivial | rfl⟩
  case rest=>
   obtain⟨rfl,hw⟩:=hcut
   subst hw
   rename World=>wE
   clear hgo
   go_upto_region 3 with fail
   have R0: ∀w',BQ wE w'->w'.cell? ⟨g,0,none⟩=some (.slice (some ad0) n c):=fun w' h=>(h.cell HS.out.box.lt).trans k0
   have R1: ∀w',BQ wE w'->w'.cell? ⟨g,1,none⟩=some (.int .i64 (k:Nat)):=fun w' h=>(h.cell HS.out.box.lt).trans k1
   have hd0:BQ wE wE.drew:=(BQ.refl _).drew
   have hX:=Lib.hid hd0
   have hkc:(e:Int)<=(c:Int):=by omega
   have hke2:(k:Int)<=(e:Int):=by omega
   have hk0:(0:Int)<=(k:Int):=by omega
   have DE:=DEC.out e _ hd0 hke hen
   rw [if_neg hck] at DE
   have DE:=hide DE
   go_region_held_law (fun w'=>BQ wE w') (first | with_reducible exact hd0 | with_reducible exact hX.out)
    (first
     | (go_at_call 107;refine(DE.out).mono ?_;rintro e w2 ⟨vr,left,rfl,hl0,hown,bb⟩;have hX:=Lib.hid (BQ.call hd0 bb)))
   skip
   have HS2:=hide (HS.out.over hBw hX.out)
   obtain⟨A2,c2,rfl,_⟩:=C9 hown
   obtain⟨rs,hrs⟩: ∃rs,(U.dec U.z ((b.drop k).take (e-k))).2=rs:=⟨_,rfl⟩
   rw [hrs] at hown⊢
   have hrl:rs.length<=2*(e-k):=by
    have h1:=U.bT U.z ((b.drop k).take (e-k))
    rw [hrs,List.length_take,List.length_drop] at h1
    omega
   have hpast:PA.past l=b.drop e:=by rw [<- HDL.out,oK.out.2,List.drop_drop,show k+(e-k)=e by omega]
   have hpl:(b.drop e).length=n-e:=by rw [List.length_drop,hbn]
   have HHI:=hide (show PA.hi l=rs.map PA.pr++(if 0<left/\e<n then [PA.pr 65533] else []) from by
    unfold PA.hi
    have hr1:=oK.out.1
    rw [HDL.out] at hr1
    rw [hr1, <- HDL.out]
    rw [hrs,HDL.out,hpast]
    congr 1
    by_cases hc:0<left/\e<n
    ·rw [if_pos hc,if_pos ⟨by rw [<- HDL.out];exact hl0.1 hc.1,fun h=>by rw [h] at hpl;simp at hpl;omega⟩]
    ·rw [if_neg hc,if_neg (fun h=>hc ⟨hl0.2 (by rw [HDL.out];exact h.1),by
      by_cases hh:e<n
      ·exact hh
      ·exfalso
       exact h.2 (List.eq_nil_of_length_eq_zero (by omega))⟩)])
   have U6:=hide hpast
   have HOW:=hide hown
   clear hrs hpast hpl hown hl0 R0 R1 hd0 hX bb DE DEC oK jm HB0 k0 k1 k2 f0 f1 f2 HA HDL HR
   go_wp2_with fail
   go_loopw [46] (fun iv wx=> ∃i:Nat,i<=rs.length/\iv=.int .i64 (i:Nat)/\Hid (HRel w0 wE B g n c (some ad0) k _ es rs (.slice A2 rs.length c2) v i wx)) (fun iv _=>rs.length-(intOf iv).toNat)
   case atStart=>exact⟨0,Nat.zero_le _,rfl,hide ⟨v,M0,by simp [HM.out],HS2.out,HOW.out⟩⟩
   case round=>
    obtain⟨i,him,rfl,HH⟩:=hrel
    obtain⟨v',M,hM,hsb,hor⟩:=HH.out
    have hln:=HLN.out
    have hMl:M.length<=1000000:=by have e:=congrArg List.length hM;simp at e;omega
    have HM2:=hide hM
    have HB2:=hide hsb
    have HO2:=hide hor
    obtain⟨j0,j1,j2,l0',l1,l2⟩:=hsb.box.three
    have hsw:=hsb.size hBw
    clear HH HS2 HOW hM hsb
    by_cases hir:i<rs.length
    ·obtain⟨ad2,u,hA2,_,hu,hc2⟩:=(Seen.Bu hor).at_ (k:=i) hir
     subst hA2
     rw [DV,List.getElem?_map] at hu
     obtain⟨r,hr,rfl⟩:=Option.map_eq_some_iff.1 hu
     have HRI:=hide (show rs.take (i+1)=rs.take i++ [r] by rw [List.take_add_one,hr];rfl)
     clear hu hr hor
     go_wp2_with (at_builtin;go_must (refine CX rfl (.tmp 54) (.tmp 57) 56 rfl B 34 i0 _ 7 56 Tryz.underlying56 hi hz0 hz1 hz2 Cx (by omega) v' M.length _ rfl HB2.out.own _ _ _ rfl rfl rfl (by intro u hu;simp at hu;(repeat' (first | (rcases hu with rfl | hu) | subst hu))<;>rfl) (by omega) (by omega) (by first | omega | (simp;omega)) ?_);intro v3 w3 hown3 hg3 hm3;obtain⟨A3,c3,rfl,_⟩:=Bb hown3;have bx3:=Box.grown HB2.out.box hg3 HB2.out.ne;obtain⟨y0,y1,y2,m0,m1,m2⟩:=bx3.three)
     have R:=hide (HB2.out.put (e:=PA.pr r) (u:=.slice none 0 0) hB hBw hown3 hg3 hm3 (Cg.bare rfl))
     have OR:=hide (BF (BH HO2.out (Kept.IL hg3) (fun q hq hm=>by simp only [List.mem_singleton] at hm;exact Bv HO2.out HB2.out.own (by decide) hq hm.symm)) (p:=⟨g,2,none⟩) (Aa (BH HO2.out (Kept.IL hg3) (fun q hq hm=>by simp only [List.mem_singleton] at hm;exact Bv HO2.out HB2.out.own (by decide) hq hm.symm)) bx3 (by decide)) (.slice A3 (M.length+1) c3))
     clear hown3 hg3 hm3 bx3
     go_roundw
     case rel=>exact⟨i+1,by omega,by go_num,hide ⟨_,M++ [(PA.pr r,.slice none 0 0)],by rw [HRI.out,List.map_append,HM2.out,List.map_append,List.append_assoc];rfl,R.out,OR.out⟩⟩
     case measure=>simp [intOf];omega
    obtain rfl:i=rs.length:=by omega
    have hM:=HM2.out
    rw [List.take_length] at hM
    have HM3:=hide hM
    clear hM hor HM2
    by_cases hc:0<left/\e<n
    ·obtain⟨hc1,hc2⟩:=hc
     have hc2i:(e:Int)<(n:Int):=by omega
     have HCC:=hide (And.intro hc1 hc2)
     go_wp2_with (at_builtin;go_must (refine CX rfl (.tmp 77) (.tmp 79) 56 rfl B 34 i0 _ 7 56 Tryz.underlying56 hi hz0 hz1 hz2 Cx (by omega) v' M.length _ rfl HB2.out.own _ _ _ rfl rfl rfl (by intro u hu;simp at hu;(repeat' (first | (rcases hu with rfl | hu) | subst hu))<;>rfl) (by omega) (by omega) (by first | omega | (simp;omega)) ?_);intro v3 w3 hown3 hg3 hm3;obtain⟨A3,c3,rfl,_⟩:=Bb hown3;have bx3:=Box.grown HB2.out.box hg3 HB2.out.ne;obtain⟨y0,y1,y2,m0,m1,m2⟩:=bx3.three)
     have R:=hide ((HB2.out.put (e:=PA.pr 65533) (u:=.slice none 0 0) hB hBw hown3 hg3 hm3 (Cg.bare rfl)).at_ hB (e:Nat))
     clear hown3 hg3 hm3 bx3
     have Gj:=(show RAt w0 wE B g n c (some ad0) b (PA.past l) (es++PA.hi l) v _ _ from⟨e,M++ [(PA.pr 65533,.slice none 0 0)],hen,U6.out.symm,by rw [List.map_append,HM3.out,HHI.out,if_pos HCC.out,List.append_assoc];rfl,by rw [U6.out,HHI.out,if_pos HCC.out];simp;omega,R.out⟩)
     go_end0
     first | exact⟨_,rfl,Gj⟩ | exact⟨rfl,_,Gj⟩
    have HCC:=hide hc
    have R:=hide (HB2.out.at_ hB (e:Nat))
    have Gj:=hide (show RAt w0 wE B g n c (some ad0) b (PA.past l) (es++PA.hi l) v v' _ from⟨e,M,hen,U6.out.symm,by rw [HM3.out,HHI.out,if_neg HCC.out,List.append_nil],by rw [U6.out,HHI.out,if_neg HCC.out];simp;omega,R.out⟩)
    by_cases hc1:0<left
    ·have hc2: ¬(e:Int)<(n:Int):=fun h=>hc ⟨hc1,by omega⟩
     clear hc
     go_wp2_with fail
     go_end0
     first | exact⟨_,rfl,Gj.out⟩ | exact⟨rfl,_,Gj.out⟩
    ·clear hc
     go_wp2_with fail
     go_end0
     first | exact⟨_,rfl,Gj.out⟩ | exact⟨rfl,_,Gj.out⟩
end Go.Proofs.YtoaabebgmdbjeaaGreatDoor
namespace Go.Proofs.YtoaabebgmdbjeaaGreatDoor
open Go Go.RowKit
def GotM (w:World) (es:List PA.Ev) (e:Ending) (w':World):Prop:=
 ∃(A:Option Addr) (c:Nat) (M:List (PA.Ev × Value)),e=.returned (.slice A M.length c)/\M.length<=c/\M.map (·.1)=es/\w'.ownsRow w.heap.size 34 7 (.slice A M.length c) M.length (CF M)/\(∀p∈M,Cg w' p)/\Below w.heap.size w w'
theorem UL {x:Int} {l:List Int} (h:128<=x):(PA.past (x::l)).length<=l.length:=by
 unfold PA.past
 rw [List.dropWhile_cons_of_pos (by simpa using h)]
 exact(List.dropWhile_suffix _).length_le
theorem Xq (A:Option Addr) (n c:Nat) (b:List Int) (w:World) (hbn:b.length=n) (hA:Seen w w.heap.size A n (u8s b)) (hb: ∀x∈b,0<=x/\x<256) (hn:n<=100000) (hnc:n<=c):
  Calls Tryz.prog 27 #[.slice A n c] w (GotM w (PA.feed PA.s0 b).2):=by
 obtain⟨i0,hi,hz0,hz1,hz2⟩:=info_parts Cq
 obtain⟨E1,hE1⟩: ∃E,(PA.feed PA.s0 b).2=E:=⟨_,rfl⟩
 rw [hE1]
 have hpa: [] ++PA.pa n b=E1:=by rw [List.nil_append,PA.OO n b (by omega) hb];exact hE1
 obtain⟨g,hg⟩: ∃g,w.heap.size=g:=⟨_,rfl⟩
 have hB:w.heap.size<=g:=by omega
 have hBw:w.heap.size<=w.heap.size:=Nat.le_refl _
 obtain⟨wE,hwE⟩: ∃wE,w.alloc (.cells #[.slice A n c,.int .i64 0,.slice none 0 0] 102)=wE:=⟨_,rfl⟩
 have R0:=hide (show RAt w wE w.heap.size g n c A b b [] (.slice none 0 0) (.slice none 0 0) wE from⟨0, [],Nat.zero_le _,rfl,rfl,by simp only [List.length_nil];omega,by
  subst hwE hg
  exact⟨Box.new w 102 #[.slice A n c,.int .i64 0,.slice none 0 0],World.ownsRow_nil _ _ _ _,fun p hp=>(nomatch hp),(Below.refl w.heap.size w).alloc (Nat.le_refl _) _,Kept.refl _ _,From.mem (by simp)⟩⟩)
 have HAA:=hide hA
 have HBB:=hide hb
 have ESC:=hide (fun (F:Nat) (l:List Int) es v w' (hF:l.length<F) (H:RAt w w' w.heap.size g n c A b l es v v w')=>UJ F w w' w.heap.size g n c A b l es v hB hBw hbn hA hb hn hF H)
 have HGH:=hide (fun (x:Int) (l:List Int) es v w' (hx:128<=x) (H:RAt w w' w.heap.size g n c A b (x::l) es v v w')=>bJ w w' w.heap.size g n c A b (x::l) es v hB hBw hbn hA hb hn hnc x l rfl hx H)
 clear hA hb hE1
 go_enter Tryz.func27,Tryz.ntmps27
 go_upto_block 0 with fail
 (try rw [hg])
 (try rw [hwE])
 clear hwE hg
 go_wp2_with fail
 go_loopw [] (fun wr=> ∃(f:Nat) (l':List Int) (es':List PA.Ev) (v':Value),l'.length<=f/\es'++PA.pa f l'=E1/\Hid (RAt w wE w.heap.size g n c A b l' es' (.slice none 0 0) v' wr)) (fun wr=>n-(intOf ((wr.cell? ⟨g,1,none⟩).getD undef)).toNat)
 case atStart=>exact⟨n,b, [],_,by omega,hpa,R0⟩
 case round=>
  obtain⟨f,l',es',v',hlf,hpe,HR⟩:=hrel
  have HPE:=hide hpe
  clear R0 hpe hpa
  obtain⟨k,M,hkn,hdl,hM,hln,hsb⟩:=HR.out
  have HS:=hide hsb
  have hml:M.length<=1000000:=by have e:M.length=es'.length:=(by rw [<- hM,List.length_map]);omega
  obtain⟨k0,k1,k2,f0,f1,f2⟩:=hsb.box.three
  have hBs:=hsb.size hBw
  have hlo:=hsb.low
  rcases l' with _ | ⟨x,l2⟩
  ·skip
   obtain rfl:k=n:=by have:=congrArg List.length hdl;rw [List.length_drop,List.length_nil,hbn] at this;omega
   have HM:=hide hM
   have hpn:PA.pa f [] = [] :=by cases f<;>rfl
   have HE:=hide (show es'=E1 by have:=HPE.out;rw [hpn,List.append_nil] at this;exact this)
   obtain⟨Av,cv,hvv,hvc,_⟩:=Bb hsb.own
   subst hvv
   clear hM hsb hdl hpn
   go_wp2_with fail
   go_quiet (fail)
   go_wp2_with fail
   go_ret
   exact⟨Av,cv,M,rfl,hvc,HM.out.trans HE.out,(HS.out.drawn _).own,(HS.out.drawn _).far,(HS.out.drawn _).low⟩
  have hkl:k<n:=by have:=congrArg List.length hdl;rw [List.length_drop,List.length_cons,hbn] at this;omega
  have hbk:b[k]? =some x:=by have:=congrArg (·[0]?) hdl;simpa using this
  have Mr:b.drop (k+1)=l2:=by rw [<- List.drop_drop,hdl];rfl
  have hx:=HBB.out x (List.mem_of_getElem? hbk)
  obtain⟨ad,u,rfl,_,hu,hc⟩:=(HAA.out.below hlo).at_ (k:=k) hkl
  rw [u8s,List.getElem?_map,hbk] at hu
  obtain rfl:=Option.some.inj hu
  have hi0:(0:Int)<=(k:Int):=by omega
  have hi1:(k:Int)<(n:Int):=by omega
  obtain⟨f',rfl⟩: ∃f',f=f'+1:=⟨f-1,by rw [List.length_cons] at hlf;omega⟩
  have bK:l2.length<=f':=by rw [List.length_cons] at hlf;omega
  have hln2:es'.length+2+3*l2.length<=3*n:=by rw [List.length_cons] at hln;omega
  have HM:=hide hM
  have HD2:=hide Mr
  have HSH:=hide (show l2.length<(x::l2).length by simp)
  clear hbk hu hlo hsb hdl Mr hM hlf hln
  have hpe:=HPE.out
  unfold PA.pa at hpe
  have HPE:=hide hpe
  clear hpe
  by_cases h27:x=27
  ·subst h27
   go_wp2_with fail
   go_quiet (fail)
   go_wp2_with fail
   go_quiet (fail)
   go_upto_region 7 with fail
   generalize hw1:(wr.drewN _).setCell ⟨g,1,none⟩ _=w1
   have R1:=hide (show RAt w wE w.heap.size g n c (some ad) b l2 es' (.slice none 0 0) v' w1 from by rw [<- hw1];exact⟨k+1,M,by omega,HD2.out,HM.out,by omega,(HS.out.drawn _).at_ hB _⟩)
   clear hw1 k0 k1 k2 f0 f1 f2 hc
   go_wp2_with fail
   refine(ESC.out (f'+1) l2 es' v' w1 (by omega) R1.out.here).mono ?_
   rintro e w2 ⟨v2,rfl,h2⟩
   have R2:=hide (R1.out.next h2)
   have hes:=(PA.OM (f'+1) l2).length_le
   have hp2:=HPE.out
   rw [if_pos trivial, <- List.append_assoc] at hp2
   have HP2:=hide hp2
   clear h2 hp2
   go_wp2_with fail
   go_roundw
   case rel=>exact⟨f',_,_,v2,by omega,HP2.out,R2⟩
   case measure=>exact HR.out.less R2.out hbn (by rw [List.length_cons];omega)
  have d27:(x==27)=false:=by simpa using h27
  have hp2:=HPE.out
  rw [if_neg h27] at hp2
  have HPE:=hide hp2
  clear hp2
  by_cases h32:x<32
  ·skip
   by_cases h24:x=24
   ·subst h24
    go_wp2_with fail
    go_quiet (fail)
    go_wp2_with fail
    go_quiet (fail)
    go_wp2_with fail
    have RN:=fun q=>(show RAt w wE w.heap.size g n c (some ad) b l2 es' (.slice none 0 0) v' ((wr.drewN q).setCell ⟨g,1,none⟩ (.int .i64 ((k+1:Nat):Int))) from⟨k+1,M,by omega,HD2.out,HM.out,by omega,(HS.out.drawn q).at_ hB _⟩)
    have RN:=hide RN
    go_roundw
    case rel=>exact⟨f',l2,es',v',bK,by have:=HPE.out;rw [if_pos (by decide),if_neg (by decide),List.nil_append] at this;exact this,hide (RN.out _)⟩
    case measure=>exact HR.out.less (RN.out _) hbn HSH.out
   by_cases h26:x=26
   ·subst h26
    go_wp2_with fail
    go_quiet (fail)
    go_wp2_with fail
    go_quiet (fail)
    go_wp2_with fail
    have RN:=fun q=>(show RAt w wE w.heap.size g n c (some ad) b l2 es' (.slice none 0 0) v' ((wr.drewN q).setCell ⟨g,1,none⟩ (.int .i64 ((k+1:Nat):Int))) from⟨k+1,M,by omega,HD2.out,HM.out,by omega,(HS.out.drawn q).at_ hB _⟩)
    have RN:=hide RN
    go_roundw
    case rel=>exact⟨f',l2,es',v',bK,by have:=HPE.out;rw [if_pos (by decide),if_neg (by decide),List.nil_append] at this;exact this,hide (RN.out _)⟩
    case measure=>exact HR.out.less (RN.out _) hbn HSH.out
   have d24:(x !=24)=true:=by simpa using h24
   have d26:(x !=26)=true:=by simpa using h26
   have HI:=hide (show x<32/\x≠24/\x≠26 from⟨h32,h24,h26⟩)
   clear h24 h26
   go_wp2_with fail
   go_quiet (fail)
   go_wp2_with fail
   go_quiet (fail)
   go_wp2_with (at_builtin;go_must (refine CX rfl (.tmp 55) (.tmp 58) 56 rfl w.heap.size 34 i0 _ 7 56 Tryz.underlying56 hi hz0 hz1 hz2 Cx (by omega) v' M.length _ rfl (HS.out.drawn _).own _ _ _ rfl rfl rfl (by intro u hu;simp at hu;(repeat' (first | (rcases hu with rfl | hu) | subst hu))<;>rfl) (by omega) (by omega) (by first | omega | (simp;omega)) ?_);intro v3 w3 hown3 hg3 hm3;obtain⟨A3,c3,rfl,_⟩:=Bb hown3;have bx3:=Box.grown (HS.out.drawn _).box hg3 HS.out.ne;obtain⟨j0,j1,j2,l0,l1,l2'⟩:=bx3.three)
   have HP:=hide ((HS.out.drawn _).put (e:=PA.ex x) (u:=.slice none 0 0) hB hBw hown3 hg3 hm3 (Cg.bare rfl))
   have RN:=hide (show RAt w wE w.heap.size g n c (some ad) b l2 (es'++ [PA.ex x]) (.slice none 0 0) _ _ from⟨k+1,M++ [(PA.ex x,.slice none 0 0)],by omega,HD2.out,by rw [List.map_append,HM.out];rfl,by rw [List.length_append];simp only [List.length_cons,List.length_nil];omega,HP.out.at_ hB _⟩)
   go_roundw
   case rel=>exact⟨f',l2,es'++ [PA.ex x],_,bK,by have:=HPE.out;rw [if_pos HI.out.1,if_pos HI.out.2] at this;rw [List.append_assoc];exact this,RN⟩
   case measure=>exact HR.out.less RN.out hbn HSH.out
  by_cases h127:x=127
  ·subst h127
   go_wp2_with fail
   go_quiet (fail)
   go_wp2_with fail
   go_quiet (fail)
   go_wp2_with fail
   have RN:=fun q=>(show RAt w wE w.heap.size g n c (some ad) b l2 es' (.slice none 0 0) v' ((wr.drewN q).setCell ⟨g,1,none⟩ (.int .i64 ((k+1:Nat):Int))) from⟨k+1,M,by omega,HD2.out,HM.out,by omega,(HS.out.drawn q).at_ hB _⟩)
   have RN:=hide RN
   go_roundw
   case rel=>exact⟨f',l2,es',v',bK,by have:=HPE.out;rw [if_neg (by decide),if_pos trivial] at this;exact this,hide (RN.out _)⟩
   case measure=>exact HR.out.less (RN.out _) hbn HSH.out
  have d127:(x==127)=false:=by simpa using h127
  have HI7:=hide h127
  clear h127
  by_cases hlt:x<127
  ·have HI:=hide hlt
   go_wp2_with fail
   go_quiet (fail)
   go_wp2_with fail
   go_quiet (fail)
   go_wp2_with (at_builtin;go_must (refine CX rfl (.tmp 86) (.tmp 90) 56 rfl w.heap.size 34 i0 _ 7 56 Tryz.underlying56 hi hz0 hz1 hz2 Cx (by omega) v' M.length _ rfl (HS.out.drawn _).own _ _ _ rfl rfl rfl (by intro u hu;simp at hu;(repeat' (first | (rcases hu with rfl | hu) | subst hu))<;>rfl) (by omega) (by omega) (by first | omega | (simp;omega)) ?_);intro v3 w3 hown3 hg3 hm3;obtain⟨A3,c3,rfl,_⟩:=Bb hown3;have bx3:=Box.grown (HS.out.drawn _).box hg3 HS.out.ne;obtain⟨j0,j1,j2,l0,l1,l2'⟩:=bx3.three)
   have HP:=hide ((HS.out.drawn _).put (e:=PA.pr x) (u:=.slice none 0 0) hB hBw hown3 hg3 hm3 (Cg.bare rfl))
   have RN:=hide (show RAt w wE w.heap.size g n c (some ad) b l2 (es'++ [PA.pr x]) (.slice none 0 0) _ _ from⟨k+1,M++ [(PA.pr x,.slice none 0 0)],by omega,HD2.out,by rw [List.map_append,HM.out];rfl,by rw [List.length_append];simp only [List.length_cons,List.length_nil];omega,HP.out.at_ hB _⟩)
   go_roundw
   case rel=>exact⟨f',l2,es'++ [PA.pr x],_,bK,by have:=HPE.out;rw [if_neg (show¬x<32 by omega),if_neg HI7.out,if_pos HI.out] at this;rw [List.append_assoc];exact this,RN⟩
   case measure=>exact HR.out.less RN.out hbn HSH.out
  have h128:128<=x:=by have:=HI7.out;omega
  go_wp2_with fail
  go_quiet (fail)
  go_wp2_with fail
  go_quiet (fail)
  go_upto_region 4 with fail
  have R1:=hide (HR.out.drawn)
  generalize hw1:wr.drewN _=w1
  have R1:=hide (show RAt w wE w.heap.size g n c (some ad) b (x::l2) es' (.slice none 0 0) v' w1 from by rw [<- hw1];exact R1.out _)
  clear hw1 k0 k1 k2 f0 f1 f2 hc
  go_wp2_with fail
  refine(HGH.out x l2 es' v' w1 h128 R1.out.here).mono ?_
  rintro e w2 ⟨v2,rfl,h2⟩
  have R2:=hide (R1.out.next h2)
  have hes:=UL (l:=l2) h128
  have hp2:=HPE.out
  rw [if_neg (show¬x<32 by omega),if_neg HI7.out,if_neg (show¬x<127 by omega), <- List.append_assoc] at hp2
  have HP2:=hide hp2
  clear h2 hp2
  go_wp2_with fail
  go_roundw
  case rel=>exact⟨f',_,_,v2,by omega,HP2.out,R2⟩
  case measure=>exact HR.out.less R2.out hbn (by rw [List.length_cons];omega)
end Go.Proofs.YtoaabebgmdbjeaaGreatDoor
