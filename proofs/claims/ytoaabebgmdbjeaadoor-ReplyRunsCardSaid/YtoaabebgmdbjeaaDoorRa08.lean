/- A part of the proof: SeqPut, SeqMake, SeqBox, ScrBrief. -/
import Derived.Test.YtoaabebgmdbjeaaDoorRa07
import Derived.Lib.AppendStr
set_option maxRecDepth 100000
set_option maxHeartbeats 16000000
set_option linter.unusedVariables false
namespace Go.Proofs.YtoaabebgmdbjeaaDoor
open Go.RowKit
theorem DJ (base:Nat) (v:Value) (n:Nat) (xs:List Value) (b:Int) (w:World) (hown:w.ownsRow base 5 1 v n xs) (hn:n<=1099511627770) (hbase:base<=w.heap.size):
  Calls AA.prog 40 #[v,.int .u8 b] w (Ju base 5 w v n xs (u8s (PA.Aj b)) fun v'=>v'):=by
 obtain⟨i0,hi,hz0,hz1,hz2⟩:=info_parts CB
 by_cases hb:b=0
 ·subst hb
  go_enter AA.func40,AA.ntmps40
  go_wp2_with fail
  go_ret
  exact⟨v,rfl,by simpa [PA.Aj,u8s] using hown,Eh _ _,Moved.refl _ _⟩
 ·have hd:(b==0)=false:=by simpa using hb
  have HE:=hide (show PA.Aj b= [b] by unfold PA.Aj;rw [if_neg hb])
  clear hb
  go_enter AA.func40,AA.ntmps40
  go_wp2_with (at_builtin;refine Ca rfl (.tmp 8) (.tmp 10) 34 rfl base 5 i0 _ 1 AA.underlying34 hi hz0 hz1 hz2 rfl v n xs rfl hown _ _ _ rfl rfl rfl (by omega) (by omega) hbase ?_;intro v' w1 hown1 hg1 hm1)
  go_ret
  refine⟨v',rfl,?_,hg1,hm1⟩
  rw [HE.out]
  exact hown1
structure Kx (base:Nat) (w0 w:World):Prop where
 below:Below base w0 w
 others:Lib.OthersKept 5 none w0 w
section
variable {base:Nat} {w0 w w':World}
theorem Kx.refl (base:Nat) (w:World):Kx base w w:=⟨Below.refl _ _,Lib.OthersKept.refl _ _ _⟩
theorem Kx.trans (h:Kx base w0 w) (k:Kx base w w'):Kx base w0 w':=⟨h.below.trans k.below,h.others.trans k.others⟩
theorem Kx.of_below (h:Below w0.heap.size w0 w) (hb:base<=w0.heap.size):Kx base w0 w:=⟨h.mono hb,fun k o hk _ _=>by
 have hlt:k<w0.heap.size:=(Array.getElem?_eq_some_iff.1 hk).1
 rw [h.block k hlt]
 exact hk⟩
theorem Kx.alloc (h:Kx base w0 w) (hb:base<=w.heap.size) (o:Obj):Kx base w0 (w.alloc o):=h.trans (Kx.of_below ((Below.refl _ _).alloc (Nat.le_refl _) _) hb)
theorem Kx.drew (h:Kx base w0 w):Kx base w0 w.drew:=⟨h.below.drew,h.others.drew⟩
theorem Kx.grown {n:Nat} {v:Value} {xs:List Value} (h:Kx base w0 w) (hown:w.ownsRow base 5 1 v n xs) (hg:w.grownBy w' v.ownBlock) (hb:base<=w.heap.size):Kx base w0 w':=h.trans ⟨Ch hg hb (fun g hg=>(hown.lt g hg).1),fun k o hk _ ho=>by
 have hlt:k<w.heap.size:=(Array.getElem?_eq_some_iff.1 hk).1
 rw [hg.block k hlt (fun e=>by
  obtain⟨cur,hc⟩:=JD hown e.symm
  unfold Box at hc
  rw [hk] at hc
  exact ho cur (0,0) (Option.some.inj hc))]
 exact hk⟩
theorem Kx.box (h:Kx base w0 w) {g:Nat} {t:TypeId} {cs:Array Value} (hb:Box w0 g t cs) (ht:t≠5):Box w g t cs:=by
 refine h.others g _ hb (by simp) (fun c fz e=>?_)
 injection e with _ h2
 exact ht h2
theorem Kx.size (h:Kx base w0 w):w0.heap.size<=w.heap.size:=h.below.size
end
def Bv (base:Nat) (w:World) (n:Nat) (xs:List Value) (ys:List Int) (e:Ending) (w':World):Prop:=
 ∃v',e=.returned v'/\w'.ownsRow base 5 1 v' (n+ys.length) (xs++u8s ys)/\Kx base w w'
theorem Fu: ∀(l:List Int) (x:Int),PA.joined (l++ [x])=if l= [] then PA.num x else PA.joined l++59::PA.num x
 | [],x=>rfl
 | [y],x=>by rw [if_neg (by simp)];rfl
 | y::z::l,x=>by
  have ih:=Fu (z::l) x
  rw [if_neg (by simp)] at ih⊢
  show PA.num y++59::PA.joined ((z::l)++ [x])=_
  rw [ih]
  show _=(PA.num y++59::PA.joined (z::l))++59::PA.num x
  simp
theorem CZ: ∀(k n:Nat),(PA.Bp k n).length<=k+1
 | 0,n=>by simp [PA.Bp]
 | k+1,n=>by
  unfold PA.Bp
  split
  ·simp
  ·have:=CZ k (n / 10)
   simp
   omega
theorem Kr (x:Int):(PA.num x).length<=21:=by
 unfold PA.num
 split
 ·simp
 ·exact CZ 20 _
theorem Dw: ∀l:List Int,(PA.joined l).length<=22*l.length
 | [] =>by simp [PA.joined]
 | [x] =>by have:=Kr x;simp [PA.joined];omega
 | x::y::l=>by
  have h1:=Kr x
  have h2:=Dw (y::l)
  simp only [PA.joined,List.length_append,List.length_cons] at h2⊢
  omega
theorem Kx.wrote {base n:Nat} {w w':World} {xs:List Value} {ys:List Int} {e:Ending} {v v':Value} (he:e=.returned v') (hown:w.ownsRow base 5 1 v n xs) (h:w'.ownsRow base 5 1 v' (n+ys.length) (xs++u8s ys)) (hg:w.grownBy w' v.ownBlock) (hb:base<=w.heap.size):Bv base w n xs ys e w':=
 ⟨v',he,h,(Kx.refl _ _).grown hown hg hb⟩
def Gj (base:Nat) (w:World):Prop:= ∀w',Below base w w'->FZ w'
theorem Gj.on {base:Nat} {w w':World} (h:Gj base w) (k:Below base w w'):Gj base w':=fun w2 k2=>h w2 (k.trans k2)
theorem G8 (base:Nat) (v:Value) (n0:Nat) (xs:List Value) (A:Option Addr) (n c:Nat) (l:List Int) (w:World) (hown:w.ownsRow base 5 1 v n0 xs) (hn0:n0<=1099511000000) (hbase:base<=w.heap.size)
  (hA:Seen w base A n (Ak l)) (hn:n<=16) (hl: ∀x∈l, -1<=x/\x<=65535) (ht:Gj base w):
  Calls AA.prog 41 #[v,.slice A n c] w (Bv base w n0 xs (PA.joined l)):=by
 obtain⟨i0,hi,hz0,hz1,hz2⟩:=info_parts CB
 have hlen:l.length=n:=by simpa [Ak] using hA.1
 have HA:=hide hA
 have HL:=hide hl
 have HN:=hide hlen
 have HT:=hide ht
 have HO:=hide hown
 clear hA hl hlen ht
 go_enter AA.func41,AA.ntmps41
 go_wp2_with fail
 go_loopw [0,9] (fun o i wr=> ∃k:Nat,k<=n/\i=.int .i64 k/\wr.ownsRow base 5 1 o (n0+(PA.joined (l.take k)).length) (xs++u8s (PA.joined (l.take k)))/\Kx base w wr) (fun _ i _=>n-(intOf i).toNat)
 case atStart=>exact⟨0,Nat.zero_le _,rfl,by simpa [PA.joined,u8s] using HO.out,Kx.refl _ _⟩
 case round=>
  obtain⟨k,hk,rfl,ho,kx⟩:=hrel
  by_cases hlt:k<n
  ·obtain⟨ad,u,rfl,_,hu,hc⟩:=(HA.out.below kx.below).at_ hlt
   rw [Ak,List.getElem?_map] at hu
   obtain⟨x,hx,rfl⟩:=Option.map_eq_some_iff.1 hu
   have hxr:=HL.out x (List.mem_of_getElem? hx)
   have hs1:=Fu (l.take k) x
   rw [show l.take k++ [x] =l.take (k+1) from by rw [List.take_add_one,hx];rfl] at hs1
   have hln:=Dw (l.take k)
   have hk0:l.take k= [] <->k=0:=by
    rw [<- List.length_eq_zero_iff,List.length_take,HN.out]
    omega
   rw [List.length_take] at hln
   generalize PA.joined (l.take k)=js at hs1 ho hln
   have hbw:base<=wr.heap.size:=Nat.le_trans hbase kx.size
   clear hu hx
   have Ld:x≠ -1->PA.num x=PA.BJ x.toNat:=fun e=>by unfold PA.num;rw [if_neg e]
   have IK:x= -1->PA.num x= [] :=fun e=>by unfold PA.num;rw [if_pos e]
   have hdl:x≠ -1->(PA.BJ x.toNat).length<=21:=fun e=>CZ 20 _
   have cs:k=0\/0<k:=by omega
   rcases cs with hk1 | hk1
   ·have hd0:decide (0<(k:Int))=false:=by simp;omega
    have hd0':decide (0<k)=false:=by simp;omega
    have hk2:k<=0:=by omega
    rw [if_pos (hk0.2 hk1)] at hs1
    have hjs:js= [] :=by
     have:js.length<=0:=by omega
     exact List.eq_nil_of_length_eq_zero (by omega)
    subst hjs
    simp only [List.length_nil,Nat.add_zero,u8s,List.map_nil,List.append_nil] at ho
    by_cases hx1:x= -1
    ·have hd1:(x != -1)=false:=by simp [hx1]
     rw [IK hx1] at hs1
     have HS:=hide hs1
     have HX:=hide hx1
     clear hs1 hk0 Ld IK hk1 hx1 hdl
     go_wp2_with fail
     go_roundw
     case rel=>exact⟨k+1,by omega,by go_num,by rw [HS.out];simpa [u8s] using ho,kx⟩
     case measure=>simp [intOf];omega
    ·have hd1:(x != -1)=true:=by simpa using hx1
     rw [Ld hx1] at hs1
     have hdl:=hdl hx1
     have x0:0<=x:=by omega
     have HS:=hide hs1
     have HI:=hide (Ec base n0 x x0 hxr.2 u0 xs wr ho hbw (by omega) (HT.out.on kx.below))
     clear hs1 hk0 Ld IK hk1 hx1
     go_wp2_with fail
     refine HI.out.mono ?_
     rintro e w1 ⟨v1,rfl,h1,kx0,PW⟩
     have kx1:Kx base wr w1:=⟨kx0,PW⟩
     go_wp2_with fail
     go_roundw
     case rel=>exact⟨k+1,by omega,by go_num,by rw [HS.out];exact h1,kx.trans kx1⟩
     case measure=>simp [intOf];omega
   ·have hd0:decide (0<(k:Int))=true:=by simp;omega
    have hd0':decide (0<k)=true:=by simp;omega
    rw [if_neg (fun e=>by have:=hk0.1 e;omega)] at hs1
    by_cases hx1:x= -1
    ·have hd1:(x != -1)=false:=by simp [hx1]
     rw [IK hx1] at hs1
     have HS:=hide hs1
     have HX:=hide hx1
     clear hs1 hk0 Ld IK hx1 hdl
     go_wp2_with (at_builtin;refine Ca rfl (.tmp 16) (.tmp 17) 34 rfl base 5 i0 _ 1 AA.underlying34 hi hz0 hz1 hz2 rfl u0 _ _ rfl ho _ _ _ rfl rfl rfl (by omega) (by omega) hbw ?_;intro v' w1 hown1 hg1 hm1)
     go_roundw
     case rel=>exact⟨k+1,by omega,by go_num,by rw [HS.out];simpa [u8s,Nat.add_assoc] using hown1,kx.grown ho hg1 hbw⟩
     case measure=>simp [intOf];omega
    ·have hd1:(x != -1)=true:=by simpa using hx1
     rw [Ld hx1] at hs1
     have hdl:=hdl hx1
     have x0:0<=x:=by omega
     have HS:=hide hs1
     have HI:=hide (fun v1 w1 h1 k1 hb1=>Ec base (n0+js.length+1) x x0 hxr.2 v1 (xs++u8s js++ [.int .u8 59]) w1 h1 hb1 (by omega) (HT.out.on (Kx.below k1)))
     clear hs1 hk0 Ld IK hx1
     go_wp2_with (at_builtin;refine Ca rfl (.tmp 16) (.tmp 17) 34 rfl base 5 i0 _ 1 AA.underlying34 hi hz0 hz1 hz2 rfl u0 _ _ rfl ho _ _ _ rfl rfl rfl (by omega) (by omega) hbw ?_;intro v' w1 hown1 hg1 hm1)
     have kx1:=kx.grown ho hg1 hbw
     have hb1:base<=w1.heap.size:=Nat.le_trans hbase kx1.size
     refine(HI.out v' w1 hown1 kx1 hb1).mono ?_
     rintro e w2 ⟨v2,rfl,h2,kx0,PW⟩
     have kx2:Kx base w1 w2:=⟨kx0,PW⟩
     have kx3:Kx base w w2:=kx1.trans kx2
     clear kx2
     go_wp2_with fail
     go_roundw
     case rel=>exact⟨k+1,by omega,by go_num,by rw [HS.out];simpa [u8s,Nat.add_assoc,Nat.add_comm,Nat.add_left_comm] using h2,kx3⟩
     case measure=>simp [intOf];omega
  ·obtain rfl:k=n:=by omega
   rw [List.take_of_length_le (by rw [HN.out];omega)] at ho
   go_wp2_with fail
   go_ret
   exact⟨u0,rfl,ho,kx⟩
end Go.Proofs.YtoaabebgmdbjeaaDoor
namespace Go.Proofs.YtoaabebgmdbjeaaDoor
open Go.RowKit
theorem OT (r:Int):U.enc [r] =U.en1 r:=by simp [U.enc]
theorem Le {r:Int} (h:PA.Ck r):U.en1 r=U.en r:=by
 have:U.isR r=true:=by
  unfold U.isR
  unfold PA.Ck at h
  simp
  omega
 simp [U.en1,this]
theorem IV {r:Int}:(U.en r).length<=4:=by
 unfold U.en
 repeat' split
 all_goals simp
theorem QS (base:Nat) (v:Value) (n0:Nat) (xs:List Value) (r:Int) (A:Option Addr) (c:Nat) (s:ByteArray) (w:World) (hown:w.ownsRow base 5 1 v n0 xs) (hn0:n0<=1099511000000) (hbase:base<=w.heap.size) (hr:PA.Ck r):
  Calls AA.prog 25 #[v,.agg #[.int .i64 1,.int .i32 r,.int .u8 0,.int .u8 0,.int .u8 0,.slice A 0 c,.string s]] w (Bv base w n0 xs (U.en r)):=by
 obtain⟨i0,hi,hz0,hz1,hz2⟩:=info_parts CB
 have hrr: -2147483648<=r/\r<=2147483647:=by unfold PA.Ck at hr;omega
 have CE:=hide (fun (w1:World) (hA:Seen w1 w1.heap.size (some ⟨w.heap.size+1,0,none⟩) 1 (Na [r]))=>KI (some ⟨w.heap.size+1,0,none⟩) 1 1 [r] w1 hA (by simpa using hrr) (by omega))
 rw [OT,Le hr] at CE
 have HL:=hide (IV (r:=r))
 generalize U.en r=ys at*
 clear hr hrr
 go_enter AA.func25,AA.ntmps25
 go_wp2_with fail
 refine(CE.out _ (Seen.fresh (by simp) (by simp) rfl rfl)).mono ?_
 rintro e w1 ⟨v1,rfl,h1,b1⟩
 obtain⟨A1,c1,rfl,_⟩:=Bg h1
 have s1:=Seen.Cu h1
 have bb:Below w.heap.size w w1:=(((Below.refl _ w).alloc (Nat.le_refl _) _).alloc (by simp) _).trans (b1.mono (by simp;omega))
 have hown1:=own_below hown bb
 clear b1 h1 hown
 have hl:=HL.out
 have hb1:base<=w1.heap.size:=Nat.le_trans hbase bb.size
 have kx:=Kx.of_below bb hbase
 clear bb
 go_wp2_with (at_builtin;refine Fe rfl (.tmp 9) (.tmp 13) 34 rfl base 5 i0 _ 1 AA.underlying34 hi hz0 hz1 hz2 rfl v n0 xs rfl hown1 w1.heap.size A1 ys.length c1 (u8s ys) rfl s1 (Nb ys) (by omega) (by omega) hb1 ?_;intro v' w2 hown2 hg2 hm2)
 go_ret
 exact⟨v',rfl,hown2,kx.grown hown1 hg2 hb1⟩
theorem QT (base:Nat) (v:Value) (n0:Nat) (xs:List Value) (b:Int) (A:Option Addr) (c:Nat) (s:ByteArray) (w:World) (hown:w.ownsRow base 5 1 v n0 xs) (hn0:n0<=1099511000000) (hbase:base<=w.heap.size):
  Calls AA.prog 25 #[v,.agg #[.int .i64 2,.int .i32 0,.int .u8 0,.int .u8 0,.int .u8 b,.slice A 0 c,.string s]] w (Bv base w n0 xs [b]):=by
 obtain⟨i0,hi,hz0,hz1,hz2⟩:=info_parts CB
 have hown0:=Aa hown (.cells #[.int .i64 2,.int .i32 0,.int .u8 0,.int .u8 0,.int .u8 b,.slice A 0 c,.string s] 38)
 have hb0:base<=(w.alloc (.cells #[.int .i64 2,.int .i32 0,.int .u8 0,.int .u8 0,.int .u8 b,.slice A 0 c,.string s] 38)).heap.size:=by simp;omega
 have kx:=(Kx.refl base w).alloc hbase (.cells #[.int .i64 2,.int .i32 0,.int .u8 0,.int .u8 0,.int .u8 b,.slice A 0 c,.string s] 38)
 go_enter AA.func25,AA.ntmps25
 go_wp2_with (at_builtin;refine Ca rfl (.tmp 59) (.tmp 62) 34 rfl base 5 i0 _ 1 AA.underlying34 hi hz0 hz1 hz2 rfl v n0 xs rfl hown0 _ _ _ rfl (by simp) rfl (by omega) (by omega) hb0 ?_;intro v' w2 hown2 hg2 hm2)
 go_ret
 exact⟨v',rfl,hown2,kx.grown hown0 hg2 hb0⟩
theorem G9 {t:List Int} (h: ∀x∈t,0<=x/\x<256):Lib.strCells (strOfNums t)=u8s t:=by
 rw [Lib.strCells_eq]
 simp only [Lib.byteCells,u8s,strOfNums,List.map_map]
 refine List.map_congr_left fun x hx=>?_
 have:=h x hx
 simp
 omega
theorem QU (base:Nat) (v:Value) (n0:Nat) (xs:List Value) (A:Option Addr) (c:Nat) (t:List Int) (w:World) (hown:w.ownsRow base 5 1 v n0 xs) (hn0:n0<=1099511000000) (hbase:base<=w.heap.size) (ht: ∀x∈t,0<=x/\x<256) (hl:t.length<=4096):
  Calls AA.prog 25 #[v,.agg #[.int .i64 5,.int .i32 0,.int .u8 0,.int .u8 0,.int .u8 0,.slice A 0 c,.string (strOfNums t)]] w (Bv base w n0 xs (27::93::t++ [7])):=by
 obtain⟨i0,hi,hz0,hz1,hz2⟩:=info_parts CB
 have hsz:=strOfNums_size t
 have hsc:=G9 ht
 have bx:=Box.new w 38 #[.int .i64 5,.int .i32 0,.int .u8 0,.int .u8 0,.int .u8 0,.slice A 0 c,.string (strOfNums t)]
 have hown0:=Aa hown (.cells #[.int .i64 5,.int .i32 0,.int .u8 0,.int .u8 0,.int .u8 0,.slice A 0 c,.string (strOfNums t)] 38)
 have hb0:base<=(w.alloc (.cells #[.int .i64 5,.int .i32 0,.int .u8 0,.int .u8 0,.int .u8 0,.slice A 0 c,.string (strOfNums t)] 38)).heap.size:=by simp;omega
 have kx:=(Kx.refl base w).alloc hbase (.cells #[.int .i64 5,.int .i32 0,.int .u8 0,.int .u8 0,.int .u8 0,.slice A 0 c,.string (strOfNums t)] 38)
 have HSC:=hide hsc
 have HSZ:=hide hsz
 generalize strOfNums t=s at*
 clear hsc hsz ht
 go_enter AA.func25,AA.ntmps25
 go_wp2_with (at_builtin;first
  | (refine Cb rfl (.tmp 49) (.tmp 50) 34 rfl base 5 i0 _ 1 AA.underlying34 hi hz0 hz1 hz2 rfl v n0 xs rfl hown0 #[.int .u8 27,.int .u8 93] _ _ 2 rfl rfl (by simp) (by simp [Value.oneCell']) (by omega) (by omega) hb0 ?_;intro v1 w1 hown1 hg1 hm1;have bx1:=bx.grown hg1 (bx.Ov hown0 (by decide));have kx1:=kx.grown hown0 hg1 hb0;clear bx kx;obtain⟨k0,k1,k2,k3,k4,k5,k6⟩:=Box.seven bx1)
  | (refine Lib.wpList_append_own_string _ rfl (.tmp 52) (.tmp 54) 34 9 rfl base 5 i0 AA.underlying34 AA.underlying9 hi hz0 hz1 hz2 v1 _ _ rfl hown1 s rfl (by have:=HSZ.out;simp only [maxLen];omega) (by have:=HSZ.out;omega) (Nat.le_trans hbase kx1.size) ?_;intro v2 w2 hown2 hg2 _;have kx2:=kx1.grown hown1 hg2 (Nat.le_trans hbase kx1.size))
  | (refine Ca rfl (.tmp 56) (.tmp 57) 34 rfl base 5 i0 _ 1 AA.underlying34 hi hz0 hz1 hz2 rfl v2 _ _ rfl hown2 _ _ _ rfl rfl rfl (by omega) (by have:=HSZ.out;omega) (Nat.le_trans hbase kx2.size) ?_;intro v3 w3 hown3 hg3 _;have kx3:=kx2.grown hown2 hg3 (Nat.le_trans hbase kx2.size)))
 go_ret
 refine⟨v3,rfl,?_,kx3⟩
 rw [HSC.out,HSZ.out] at hown3
 simpa [u8s,Nat.add_assoc,Nat.add_comm,Nat.add_left_comm] using hown3
end Go.Proofs.YtoaabebgmdbjeaaDoor
namespace Go.Proofs.YtoaabebgmdbjeaaDoor
open Go.RowKit
theorem QV (base:Nat) (v:Value) (n0:Nat) (xs:List Value) (p i f:Int) (A:Option Addr) (n c:Nat) (l:List Int) (s:ByteArray) (w:World) (hown:w.ownsRow base 5 1 v n0 xs) (hn0:n0<=1099510000000) (hbase:base<=w.heap.size)
  (hA:Seen w base A n (Ak l)) (hn:n<=16) (hl: ∀x∈l, -1<=x/\x<=65535) (ht:Gj base w):
  Calls AA.prog 25 #[v,.agg #[.int .i64 4,.int .i32 0,.int .u8 p,.int .u8 i,.int .u8 f,.slice A n c,.string s]] w (Bv base w n0 xs (27::91::PA.Aj p++PA.joined l++PA.Aj i++ [f])):=by
 obtain⟨i0,hi,hz0,hz1,hz2⟩:=info_parts CB
 generalize hTT:27::91::PA.Aj p++PA.joined l++PA.Aj i++ [f] =TT
 have HTT:=hide hTT
 clear hTT
 have bx:=Box.new w 38 #[.int .i64 4,.int .i32 0,.int .u8 p,.int .u8 i,.int .u8 f,.slice A n c,.string s]
 have hown0:=Aa hown (.cells #[.int .i64 4,.int .i32 0,.int .u8 p,.int .u8 i,.int .u8 f,.slice A n c,.string s] 38)
 have kx0:=(Kx.refl base w).alloc hbase (.cells #[.int .i64 4,.int .i32 0,.int .u8 p,.int .u8 i,.int .u8 f,.slice A n c,.string s] 38)
 have HA:=hide hA
 have HL:=hide hl
 have HT:=hide ht
 clear hA hl ht
 go_enter AA.func25,AA.ntmps25
 go_wp2_with fail
 generalize hw0:w.alloc (.cells #[.int .i64 4,.int .i32 0,.int .u8 p,.int .u8 i,.int .u8 f,.slice A n c,.string s] 38)=w0 at*
 have hb0:base<=w0.heap.size:=Nat.le_trans hbase kx0.size
 clear hw0
 have R2: ∀w',Kx base w0 w'->w'.cell? ⟨w.heap.size,2,none⟩=some (.int .u8 p):=fun w' h=>(h.box bx (by decide)).cell 2
 have hd:Kx base w0 w0.drew:=(Kx.refl _ _).drew
 have hX:=Lib.hid hd
 have hAl:Kx base w0 ((w0.alloc (.cells #[.int .u8 27,.int .u8 91] 5)).drew):=((Kx.refl base w0).alloc hb0 (.cells #[.int .u8 27,.int .u8 91] 5)).drew
 go_region_held3 (fun w'=>Kx base w0 w')
  (first | with_reducible exact hd | with_reducible exact hAl | with_reducible exact hX.out)
  (first
   | (refine Bz (by rfl) (.tmp 29) (.tmp 30) 34 (by rfl) base 5 i0 _ 1 AA.underlying34 hi hz0 hz1 hz2 rfl v n0 xs (by rfl) (Bt (Aa hown0 (.cells #[.int .u8 27,.int .u8 91] 5))) (w0.heap.size+1) (some ⟨w0.heap.size,0,none⟩) 2 2 [.int .u8 27,.int .u8 91] (by rfl) (Seen.fresh (t:=5) (cs:= #[.int .u8 27,.int .u8 91]) rfl rfl rfl rfl).drew (by simp [Value.oneCell']) (by omega) (by omega) (by simp;omega) ?_;intro v1 w1 hown1 hg1 hm1;have hX:=Lib.hid (((Kx.refl base w0).alloc hb0 (.cells #[.int .u8 27,.int .u8 91] 5)).drew.grown (Bt (Aa hown0 (.cells #[.int .u8 27,.int .u8 91] 5))) hg1 (by simp;omega)))
   | (go_at_call 40;refine(DJ base v1 (n0+2) (xs++ [.int .u8 27,.int .u8 91]) p _ hown1 (by omega) (Nat.le_trans hb0 (Kx.size hX.out))).mono ?_;rintro e w2 ⟨v2,rfl,hown2,hg2,hm2⟩;have hX:=Lib.hid ((Kx.trans hX.out ((Kx.refl base w1).grown hown1 hg2 (Nat.le_trans hb0 (Kx.size hX.out)))))))
 have kx2:Kx base w w2:=kx0.trans hX.out
 have bx2:=hX.out.box bx (by decide)
 have hb2:base<=w2.heap.size:=Nat.le_trans hb0 hX.out.size
 have Mv:w2.ownsRow base 5 1 v2 (n0+(27::91::PA.Aj p).length) (xs++u8s (27::91::PA.Aj p)):=by
  rw [show n0+(27::91::PA.Aj p).length=n0+2+(u8s (PA.Aj p)).length from by simp [u8s];omega]
  simpa [u8s] using hown2
 have hsm:(27::91::PA.Aj p).length<=3:=by unfold PA.Aj;split<;>simp
 have hsi:(PA.Aj i).length<=1:=by unfold PA.Aj;split<;>simp
 have k5:=(Box.seven bx2).2.2.2.2.2.1
 have PP:=hide (G8 base v2 (n0+(27::91::PA.Aj p).length) (xs++u8s (27::91::PA.Aj p)) A n c l w2 Mv (by omega) hb2 (HA.out.below kx2.below) hn HL.out (HT.out.on kx2.below))
 clear R2 hd hAl hX hg1 hm1 hg2 hm2 hown1 hown2 Mv hown0
 generalize hhd:27::91::PA.Aj p=hd0 at*
 go_wp2_with fail
 refine PP.out.mono ?_
 rintro e w3 ⟨v3,rfl,hown3,kx23⟩
 have kx3:Kx base w w3:=kx2.trans kx23
 have bx3:=kx23.box bx2 (by decide)
 have hb3:base<=w3.heap.size:=Nat.le_trans hb2 kx23.size
 have hjl:=Dw l
 have hll:l.length=n:=by simpa [Ak] using HA.out.1
 clear k5 PP kx23 bx2
 go_wp2_with fail
 have R3: ∀w',Kx base w3 w'->w'.cell? ⟨w.heap.size,3,none⟩=some (.int .u8 i):=fun w' h=>(h.box bx3 (by decide)).cell 3
 have R4: ∀w',Kx base w3 w'->w'.cell? ⟨w.heap.size,4,none⟩=some (.int .u8 f):=fun w' h=>(h.box bx3 (by decide)).cell 4
 have hd:Kx base w3 w3.drew:=(Kx.refl _ _).drew
 have hAl:Kx base w3 ((w3.alloc (.cells #[.int .u8 f] 5)).drew):=((Kx.refl base w3).alloc hb3 _).drew
 have hX:=Lib.hid hd
 have KJ:=hd
 generalize hN:n0+hd0.length+(PA.joined l).length=N at*
 generalize hXS:xs++u8s hd0++u8s (PA.joined l)=XS at*
 have HN:=hide hN
 have HXS:=hide hXS
 have hN1:N<=1099510001000:=by omega
 have BF:=Box.new w3 5 #[.int .u8 f]
 have Fin: ∀(v5:Value) (w5:World),w5.ownsRow base 5 1 v5 (N+(u8s (PA.Aj i)).length+1) (XS++u8s (PA.Aj i)++ [.int .u8 f])->Kx base w3 w5->Bv base w n0 xs TT (.returned v5) w5:=by
  intro v5 w5 h5 k5
  rw [<- HTT.out]
  refine⟨v5,rfl,?_,kx3.trans k5⟩
  rw [<- HXS.out, <- HN.out] at h5
  rw [show n0+(hd0++PA.joined l++PA.Aj i++ [f]).length=n0+hd0.length+(PA.joined l).length+(u8s (PA.Aj i)).length+1 from by simp [u8s];omega]
  simpa [u8s] using h5
 clear hN hXS hhd
 go_region_held3 (fun w'=>Kx base w3 w')
  (first | with_reducible exact hd | with_reducible exact hAl | with_reducible exact KJ | with_reducible exact hX.out)
  (first
   | (go_at_call 40;refine(DJ base v3 N XS i w3.drew hown3 (by omega) hb3).mono ?_;rintro e w4 ⟨v4,rfl,Jf,hg4,hm4⟩;have hX:=Lib.hid ((Kx.refl base w3).grown hown3 (show w3.grownBy w4 v3.ownBlock from⟨hg4.os,hg4.tape,hg4.output,hg4.size,hg4.block⟩) hb3);have hb4:base<=w4.heap.size:=Nat.le_trans hb3 hX.out.size;have KJ:=hX.out.alloc hb4 (.cells #[.int .u8 f] 5))
   | (go_at_call 40;refine(DJ base v3 N XS i (w3.alloc (.cells #[.int .u8 f] 5)).drew (Bt (Aa hown3 _)) (by omega) (by simp;omega)).mono ?_;rintro e w4 ⟨v4,rfl,Jf,hg4,hm4⟩;have hX:=Lib.hid (hAl.grown (Bt (Aa hown3 _)) hg4 (by simp;omega));have hb4:base<=w4.heap.size:=Nat.le_trans hb3 hX.out.size;have bf4:=BF.drew.grown hg4 (fun e=>by have:=(hown3.lt _ e.symm).2;omega))
   | (refine Bz (by rfl) (.tmp 42) (.tmp 45) 34 (by rfl) base 5 i0 _ 1 AA.underlying34 hi hz0 hz1 hz2 rfl v4 (N+(u8s (PA.Aj i)).length) (XS++u8s (PA.Aj i)) (by rfl) (Aa Jf (.cells #[.int .u8 f] 5)) (w4.heap.size+1) (some ⟨w4.heap.size,0,none⟩) 1 1 [.int .u8 f] (by rfl) (Seen.fresh (t:=5) (cs:= #[.int .u8 f]) rfl rfl rfl rfl) (by simp [Value.oneCell']) (by omega) (by simp [u8s];omega) (by simp;omega) ?_;intro v5 w5 hown5 hg5 hm5;have hX:=Lib.hid (KJ.grown (Aa Jf (.cells #[.int .u8 f] 5)) hg5 (by simp;omega)))
   | (refine Bz (by rfl) (.tmp 42) (.tmp 45) 34 (by rfl) base 5 i0 _ 1 AA.underlying34 hi hz0 hz1 hz2 rfl v4 (N+(u8s (PA.Aj i)).length) (XS++u8s (PA.Aj i)) (by rfl) Jf (w3.heap.size+1) (some ⟨w3.heap.size,0,none⟩) 1 1 [.int .u8 f] (by rfl) (Seen.Br bf4 rfl rfl (by omega)) (by simp [Value.oneCell']) (by omega) (by simp [u8s];omega) hb4 ?_;intro v5 w5 hown5 hg5 hm5;have hX:=Lib.hid (hX.out.grown Jf hg5 hb4)))
 all_goals
  go_wp2_with fail
  go_ret
  exact Fin _ _ hown5 hX.out
end Go.Proofs.YtoaabebgmdbjeaaDoor
namespace Go.Proofs.YtoaabebgmdbjeaaDoor
open Go.RowKit
theorem QW (base:Nat) (v:Value) (n0:Nat) (xs:List Value) (i f:Int) (A:Option Addr) (c:Nat) (s:ByteArray) (w:World) (hown:w.ownsRow base 5 1 v n0 xs) (hn0:n0<=1099510000000) (hbase:base<=w.heap.size):
  Calls AA.prog 25 #[v,.agg #[.int .i64 3,.int .i32 0,.int .u8 0,.int .u8 i,.int .u8 f,.slice A 0 c,.string s]] w (Bv base w n0 xs (27::PA.Aj i++ [f])):=by
 obtain⟨i0,hi,hz0,hz1,hz2⟩:=info_parts CB
 generalize hTT:27::PA.Aj i++ [f] =TT
 have HTT:=hide hTT
 clear hTT
 have hsi:(PA.Aj i).length<=1:=by unfold PA.Aj;split<;>simp
 have bx:=Box.new w 38 #[.int .i64 3,.int .i32 0,.int .u8 0,.int .u8 i,.int .u8 f,.slice A 0 c,.string s]
 have hown0:=Aa hown (.cells #[.int .i64 3,.int .i32 0,.int .u8 0,.int .u8 i,.int .u8 f,.slice A 0 c,.string s] 38)
 have kx0:=(Kx.refl base w).alloc hbase (.cells #[.int .i64 3,.int .i32 0,.int .u8 0,.int .u8 i,.int .u8 f,.slice A 0 c,.string s] 38)
 go_enter AA.func25,AA.ntmps25
 go_wp2_with fail
 generalize hw0:w.alloc (.cells #[.int .i64 3,.int .i32 0,.int .u8 0,.int .u8 i,.int .u8 f,.slice A 0 c,.string s] 38)=w0 at*
 have hb0:base<=w0.heap.size:=Nat.le_trans hbase kx0.size
 clear hw0
 have R3: ∀w',Kx base w0 w'->w'.cell? ⟨w.heap.size,3,none⟩=some (.int .u8 i):=fun w' h=>(h.box bx (by decide)).cell 3
 have R4: ∀w',Kx base w0 w'->w'.cell? ⟨w.heap.size,4,none⟩=some (.int .u8 f):=fun w' h=>(h.box bx (by decide)).cell 4
 have hd:Kx base w0 w0.drew:=(Kx.refl _ _).drew
 have hA1:Kx base w0 ((w0.alloc (.cells #[.int .u8 27] 5)).drew):=((Kx.refl base w0).alloc hb0 _).drew
 have hA2:Kx base w0 ((w0.alloc (.cells #[.int .u8 f] 5)).drew):=((Kx.refl base w0).alloc hb0 _).drew
 have hA3:Kx base w0 (((w0.alloc (.cells #[.int .u8 27] 5)).alloc (.cells #[.int .u8 f] 5)).drew):=(((Kx.refl base w0).alloc hb0 _).alloc (by simp;omega) _).drew
 have hA4:Kx base w0 (((w0.alloc (.cells #[.int .u8 f] 5)).alloc (.cells #[.int .u8 27] 5)).drew):=(((Kx.refl base w0).alloc hb0 _).alloc (by simp;omega) _).drew
 have hX:=Lib.hid hd
 have PX:=hd
 have KJ:=hd
 have Fin: ∀(v5:Value) (w5:World),w5.ownsRow base 5 1 v5 (n0+1+(u8s (PA.Aj i)).length+1) (xs++ [.int .u8 27] ++u8s (PA.Aj i)++ [.int .u8 f])->Kx base w0 w5->Bv base w n0 xs TT (.returned v5) w5:=by
  intro v5 w5 h5 k5
  rw [<- HTT.out]
  refine⟨v5,rfl,?_,kx0.trans k5⟩
  rw [show n0+(27::PA.Aj i++ [f]).length=n0+1+(u8s (PA.Aj i)).length+1 from by simp [u8s];omega]
  simpa [u8s] using h5
 go_region_held3 (fun w'=>Kx base w0 w')
  (first | with_reducible exact hd | with_reducible exact hA1 | with_reducible exact hA2 | with_reducible exact hA3 | with_reducible exact hA4 | with_reducible exact PX | with_reducible exact KJ | with_reducible exact hX.out)
  (first
   | (refine Bz (by rfl) (.tmp 17) (.tmp 18) 34 (by rfl) base 5 i0 _ 1 AA.underlying34 hi hz0 hz1 hz2 rfl v n0 xs (by rfl) (Bt (Aa hown0 (.cells #[.int .u8 27] 5))) (w0.heap.size+1) (some ⟨w0.heap.size,0,none⟩) 1 1 [.int .u8 27] (by rfl) (Seen.fresh (t:=5) (cs:= #[.int .u8 27]) rfl rfl rfl rfl).drew (by simp [Value.oneCell']) (by omega) (by omega) (by simp;omega) ?_;intro v1 w1 hown1 hg1 hm1;have hX:=Lib.hid (hA1.grown (Bt (Aa hown0 _)) hg1 (by simp;omega));have hb1:base<=w1.heap.size:=Nat.le_trans hb0 hX.out.size;have PX:=hX.out.alloc hb1 (.cells #[.int .u8 f] 5))
   | (refine Bz (by rfl) (.tmp 17) (.tmp 18) 34 (by rfl) base 5 i0 _ 1 AA.underlying34 hi hz0 hz1 hz2 rfl v n0 xs (by rfl) (Bt (Aa (Aa hown0 (.cells #[.int .u8 27] 5)) (.cells #[.int .u8 f] 5))) (w0.heap.size+1) (some ⟨w0.heap.size,0,none⟩) 1 1 [.int .u8 27] (by rfl) (Seen.Br ((Box.new w0 5 #[.int .u8 27]).alloc (.cells #[.int .u8 f] 5)).drew rfl rfl (by omega)) (by simp [Value.oneCell']) (by omega) (by omega) (by simp;omega) ?_;intro v1 w1 hown1 hg1 hm1;have hX:=Lib.hid (hA3.grown (Bt (Aa (Aa hown0 _) _)) hg1 (by simp;omega));have hb1:base<=w1.heap.size:=Nat.le_trans hb0 hX.out.size;have bf1:=(Box.fresh (w:=w0.alloc (.cells #[.int .u8 27] 5)) (t:=5) (cs:= #[.int .u8 f]) (g:=w0.heap.size+1) (by simp)).drew.grown hg1 (fun e=>by have:=(hown0.lt _ e.symm).2;omega))
   | (refine Bz (by rfl) (.tmp 17) (.tmp 18) 34 (by rfl) base 5 i0 _ 1 AA.underlying34 hi hz0 hz1 hz2 rfl v n0 xs (by rfl) (Bt (Aa (Aa hown0 (.cells #[.int .u8 f] 5)) (.cells #[.int .u8 27] 5))) (w0.heap.size+2) (some ⟨w0.heap.size+1,0,none⟩) 1 1 [.int .u8 27] (by rfl) (Seen.Br (Box.fresh (w:=w0.alloc (.cells #[.int .u8 f] 5)) (t:=5) (cs:= #[.int .u8 27]) (g:=w0.heap.size+1) (by simp)).drew rfl rfl (by omega)) (by simp [Value.oneCell']) (by omega) (by omega) (by simp;omega) ?_;intro v1 w1 hown1 hg1 hm1;have hX:=Lib.hid (hA4.grown (Bt (Aa (Aa hown0 _) _)) hg1 (by simp;omega));have hb1:base<=w1.heap.size:=Nat.le_trans hb0 hX.out.size;have bf1:=((Box.new w0 5 #[.int .u8 f]).alloc (.cells #[.int .u8 27] 5)).drew.grown hg1 (fun e=>by have:=(hown0.lt _ e.symm).2;omega))
   | (go_at_call 40;refine(DJ base v1 (n0+1) (xs++ [.int .u8 27]) i w1 hown1 (by omega) hb1).mono ?_;rintro e w2 ⟨v2,rfl,hown2,hg2,hm2⟩;have hX:=Lib.hid (hX.out.grown hown1 hg2 hb1);have hb2:base<=w2.heap.size:=Nat.le_trans hb0 hX.out.size;have KJ:=hX.out.alloc hb2 (.cells #[.int .u8 f] 5);(try(have bf2:=bf1.grown hg2 (fun e=>by
     rcases hm1 with hm | ⟨g,hm,hm'⟩
     ·rw [hm] at e;have:=(hown0.lt _ e.symm).2;omega
     ·rw [hm] at e;injection e with e;simp at hm';omega))))
   | (go_at_call 40;refine(DJ base v1 (n0+1) (xs++ [.int .u8 27]) i (w1.alloc (.cells #[.int .u8 f] 5)) (Aa hown1 _) (by omega) (by simp;omega)).mono ?_;rintro e w2 ⟨v2,rfl,hown2,hg2,hm2⟩;have hX:=Lib.hid (PX.grown (Aa hown1 _) hg2 (by simp;omega));have hb2:base<=w2.heap.size:=Nat.le_trans hb0 hX.out.size;have bf2:=(Box.new w1 5 #[.int .u8 f]).grown hg2 (fun e=>by have:=(hown1.lt _ e.symm).2;omega))
   | (refine Bz (by rfl) (.tmp 22) (.tmp 25) 34 (by rfl) base 5 i0 _ 1 AA.underlying34 hi hz0 hz1 hz2 rfl v2 (n0+1+(u8s (PA.Aj i)).length) (xs++ [.int .u8 27] ++u8s (PA.Aj i)) (by rfl) (Aa hown2 (.cells #[.int .u8 f] 5)) (w2.heap.size+1) (some ⟨w2.heap.size,0,none⟩) 1 1 [.int .u8 f] (by rfl) (Seen.fresh (t:=5) (cs:= #[.int .u8 f]) rfl rfl rfl rfl) (by simp [Value.oneCell']) (by omega) (by simp [u8s];omega) (by simp;omega) ?_;intro v5 w5 hown5 hg5 hm5;have hX:=Lib.hid (KJ.grown (Aa hown2 (.cells #[.int .u8 f] 5)) hg5 (by simp;omega)))
   | (refine Bz (by rfl) (.tmp 22) (.tmp 25) 34 (by rfl) base 5 i0 _ 1 AA.underlying34 hi hz0 hz1 hz2 rfl v2 (n0+1+(u8s (PA.Aj i)).length) (xs++ [.int .u8 27] ++u8s (PA.Aj i)) (by rfl) hown2 w2.heap.size _ 1 1 [.int .u8 f] (by rfl) (Seen.Br bf2 rfl rfl bf2.lt) (by simp [Value.oneCell']) (by omega) (by simp [u8s];omega) hb2 ?_;intro v5 w5 hown5 hg5 hm5;have hX:=Lib.hid (hX.out.grown hown2 hg5 hb2)))
 all_goals
  go_wp2_with fail
  go_ret
  exact Fin _ _ hown5 hX.out
theorem KL (base:Nat) (v:Value) (n0:Nat) (xs:List Value) (e:PA.Ev) (A:Option Addr) (c:Nat) (w:World) (he:PA.Right e) (hown:w.ownsRow base 5 1 v n0 xs) (hn0:n0<=1099510000000) (hbase:base<=w.heap.size)
  (hA:Seen w base A e.params.length (Ak e.params)) (ht:Gj base w):
  Calls AA.prog 25 #[v,.agg #[.int .i64 e.kind,.int .i32 e.rune,.int .u8 e.priv,.int .u8 e.inter,.int .u8 e.final,.slice A e.params.length c,.string (strOfNums e.text)]] w (Bv base w n0 xs (PA.bytesOf e)):=by
 rcases he with ⟨r,rfl,h⟩ | ⟨b,rfl,h0,h1,h2,h3,h4⟩ | ⟨i,f,rfl,hi,h0,h1,h⟩ | ⟨p,i,f,ps,rfl,hp,hi,h0,h1,hl,hn,h⟩ | ⟨t,rfl,hl,h⟩
 ·exact QS base v n0 xs r A c _ w hown (by omega) hbase h
 ·exact QT base v n0 xs b A c _ w hown (by omega) hbase
 ·exact QW base v n0 xs i f A c _ w hown (by omega) hbase
 ·exact QV base v n0 xs p i f A ps.length c ps _ w hown (by omega) hbase hA hl hn ht
 ·exact QU base v n0 xs A c t w hown (by omega) hbase (fun x hx=>by have:=h x hx;omega) hl
theorem Lf {e:PA.Ev} (h:PA.Right e):(PA.bytesOf e).length<=4200:=by
 have s1: ∀i,(PA.Aj i).length<=1:=fun i=>by unfold PA.Aj;split<;>simp
 rcases h with ⟨r,rfl,h⟩ | ⟨b,rfl,h0,h1,h2,h3,h4⟩ | ⟨i,f,rfl,hi,h0,h1,h⟩ | ⟨p,i,f,ps,rfl,hp,hi,h0,h1,hl,hn,h⟩ | ⟨t,rfl,hl,h⟩
 ·have:=IV (r:=r)
  show(U.en r).length<=_
  omega
 ·show [b].length<=_
  simp
 ·have:=s1 i
  show(27::PA.Aj i++ [f]).length<=_
  simp
  omega
 ·have a:=s1 i
  have b:=s1 p
  have c:=Dw ps
  show(27::91::PA.Aj p++PA.joined ps++PA.Aj i++ [f]).length<=_
  simp
  omega
 ·show(27::93::t++ [7]).length<=_
  simp
  omega
end Go.Proofs.YtoaabebgmdbjeaaDoor
namespace Go.Proofs.YtoaabebgmdbjeaaDoor
open Go.RowKit
def Ik (e:PA.Ev):Prop:=0<=e.final/\ ∀x∈e.text,0<=x/\x<256
def printed (es:List PA.Ev):List PA.Ev:=es.filter PA.Ag
theorem Il (l:List PA.Ev) (e:PA.Ev):printed (l++ [e])=printed l++(if PA.Ag e=true then [e] else []):=by
 unfold printed
 rw [List.filter_append]
 congr 1
 simp [List.filter]
 split<;>simp_all
theorem Im (a b:List PA.Ev):PA.Az (a++b)=PA.Az a++PA.Az b:=by simp [PA.Az]
theorem FH: ∀(es:List PA.Ev),(∀e∈es,PA.Right e)->(PA.Az es).length<=4200*es.length
 | [],_=>by simp [PA.Az]
 | e::es,h=>by
  have h1:=Lf (h e (by simp))
  have h2:=FH es (fun x hx=>h x (by simp [hx]))
  show(PA.bytesOf e++PA.Az es).length<=_
  simp only [List.length_append,List.length_cons]
  omega
theorem He (es:List PA.Ev): ∀e∈printed es,PA.Right e:=fun e he=>PA.FD (List.mem_filter.1 he).2
theorem Jg (es:List PA.Ev):(PA.Az (printed es)).length<=4200*es.length:=by
 have h1:=FH (printed es) (He es)
 have h2:(printed es).length<=es.length:=List.length_filter_le _ _
 have:=Nat.mul_le_mul_left 4200 h2
 omega
theorem Lg (A:Option Addr) (n c:Nat) (M:List (PA.Ev × Value)) (w:World) (hM:IG w A n M) (hf: ∀p∈M,Ik p.1) (hn:n<=100000) (ht:FZ w):
  Calls AA.prog 16 #[.slice A n c] w (Kq w (PA.Az (printed (M.map (·.1))))):=by
 have HM:=hide hM
 have HF:=hide hf
 have HT:=hide (show Gj w.heap.size w from Lib.tabBelow_of_tabIs ht)
 clear hM hf ht
 go_enter AA.func16,AA.ntmps16
 go_wp2_with fail
 go_loopw [3,8] (fun o i wr=> ∃k:Nat,k<=n/\i=.int .i64 k/\wr.ownsRow w.heap.size 5 1 o (PA.Az (printed ((M.take k).map (·.1)))).length (u8s (PA.Az (printed ((M.take k).map (·.1)))))/\Below w.heap.size w wr) (fun _ i _=>n-(intOf i).toNat)
 case atStart=>exact⟨0,Nat.zero_le _,rfl,World.ownsRow_nil _ _ _ _,Below.refl _ _⟩
 case round=>
  obtain⟨k,hk,rfl,ho,b0⟩:=hrel
  by_cases hlt:k<n
  ·obtain⟨q,hq⟩: ∃q,M[k]? =some q:=⟨_,List.getElem?_eq_getElem (by rw [HM.out.1];exact hlt)⟩
   obtain⟨gb,rfl,hgb,hcc,Ap,cp,hpu,hps,hle⟩:=HM.out.2 k q hq
   have hfit:=HF.out q (List.mem_of_getElem? hq)
   have hsn:=Il ((M.take k).map (·.1)) q.1
   rw [show(M.take k).map (·.1)++ [q.1] =(M.take (k+1)).map (·.1) from by rw [List.take_add_one,hq];simp] at hsn
   have hpl:=Jg ((M.take k).map (·.1))
   rw [List.length_map,List.length_take] at hpl
   generalize printed ((M.take k).map (·.1))=es at hsn ho hpl
   obtain⟨e,u⟩:=q
   simp only [] at hcc hpu hps hle hfit hsn
   subst hpu
   obtain⟨e0,e1,e2,e3,e4,el,et⟩:=e
   simp only [] at hcc hps hle
   have cb: ∀j u,(EH ⟨e0,e1,e2,e3,e4,el,et⟩ (.slice Ap el.length cp))[j]? =some u->wr.cell? ⟨gb,k*7+j,none⟩=some u:=fun j u hu=>(b0.cell (p:=⟨gb,k*7+j,none⟩) hgb).trans (hcc j u hu)
   have c0:wr.cell? ⟨gb,k*7,none⟩=some (.int .i64 e0):=cb 0 _ rfl
   have c1:wr.cell? ⟨gb,k*7+1,none⟩=some (.int .i32 e1):=cb 1 _ rfl
   have c2:wr.cell? ⟨gb,k*7+2,none⟩=some (.int .u8 e2):=cb 2 _ rfl
   have c3:wr.cell? ⟨gb,k*7+3,none⟩=some (.int .u8 e3):=cb 3 _ rfl
   have c4:wr.cell? ⟨gb,k*7+4,none⟩=some (.int .u8 e4):=cb 4 _ rfl
   have c5:wr.cell? ⟨gb,k*7+5,none⟩=some (.slice Ap el.length cp):=cb 5 _ rfl
   have c6:wr.cell? ⟨gb,k*7+6,none⟩=some (.string (strOfNums et)):=cb 6 _ rfl
   have RI:=hide (fun o=>Fq e0 e1 e2 e3 e4 Ap el.length cp el et (wr.alloc o) (((hps.below b0).alloc b0.size _).more (by have:=b0.size;simp;omega)) (by omega) hfit.1 hfit.2)
   have PU:=hide (fun (hr:PA.Ag ⟨e0,e1,e2,e3,e4,el,et⟩=true) (w2:World) (b2:Below w.heap.size w w2) (h2:w2.ownsRow w.heap.size 5 1 u3 (PA.Az es).length (u8s (PA.Az es)))=>(show Calls AA.prog 25 #[u3,.agg #[.int .i64 e0,.int .i32 e1,.int .u8 e2,.int .u8 e3,.int .u8 e4,.slice Ap el.length cp,.string (strOfNums et)]] w2 (Bv w.heap.size w2 (PA.Az es).length (u8s (PA.Az es)) (PA.bytesOf ⟨e0,e1,e2,e3,e4,el,et⟩)) from KL w.heap.size u3 _ _ ⟨e0,e1,e2,e3,e4,el,et⟩ Ap cp w2 (PA.FD hr) h2 (by omega) b2.size (hps.below b2) (HT.out.on b2)))
   have HSN:=hide hsn
   have HO:=hide ho
   have HB:=hide b0
   clear hcc cb hq hps hle hfit hsn ho b0 hpl
   generalize hbs:PA.bytesOf ⟨e0,e1,e2,e3,e4,el,et⟩=bs at*
   generalize hev:(⟨e0,e1,e2,e3,e4,el,et⟩:PA.Ev)=ev at*
   have HBS:=hide hbs
   clear hev hbs
   generalize hR:PA.Ag ev=R at*
   clear hR
   have hbx:=Box.new wr 38 #[.int .i64 e0,.int .i32 e1,.int .u8 e2,.int .u8 e3,.int .u8 e4,.slice Ap el.length cp,.string (strOfNums et)]
   rcases R with _ | _
   ·go_wp2_with fail
    refine(RI.out _).mono ?_
    rintro x w1 ⟨rfl,b1⟩
    have bb:Below wr.heap.size wr w1:=((Below.refl _ wr).alloc (Nat.le_refl _) _).trans (b1.mono (by simp))
    clear b1 hbx
    go_wp2_with fail
    go_roundw
    case rel=>exact⟨k+1,by omega,by go_num,by rw [HSN.out];simpa using own_below HO.out bb,HB.out.trans (bb.mono HB.out.size)⟩
    case measure=>simp [intOf];omega
   ·go_wp2_with fail
    refine(RI.out _).mono ?_
    rintro x w1 ⟨rfl,b1⟩
    have bb:Below wr.heap.size wr w1:=((Below.refl _ wr).alloc (Nat.le_refl _) _).trans (b1.mono (by simp))
    obtain⟨k0,k1,k2,k3,k4,k5,k6⟩:=Box.seven (hbx.below b1 (by simp))
    have b2:Below w.heap.size w w1:=HB.out.trans (bb.mono HB.out.size)
    have P2:=hide (PU.out (by trivial) w1 b2 (own_below HO.out bb))
    have B2:=hide b2
    clear b1 hbx bb b2
    go_wp2_with fail
    refine P2.out.mono ?_
    rintro x w2 ⟨v2,rfl,h2,kx2⟩
    have B3:=hide (B2.out.trans kx2.below)
    clear kx2
    go_wp2_with fail
    go_roundw
    case rel=>exact⟨k+1,by omega,by go_num,by rw [HSN.out,if_pos (by trivial),Im];simpa [PA.Az,u8s,HBS.out] using h2,B3.out⟩
    case measure=>simp [intOf];omega
  ·obtain rfl:k=n:=by omega
   rw [List.take_of_length_le (by rw [HM.out.1];omega)] at ho
   go_wp2_with fail
   go_ret
   exact⟨u3,rfl,ho,b0⟩
end Go.Proofs.YtoaabebgmdbjeaaDoor
namespace Go.Proofs.YtoaabebgmdbjeaaDoor
open Go.RowKit
def Made (w:World) (p f:Int) (l:List Int) (e:Ending) (w':World):Prop:=
 ∃v',e=.returned (.agg #[.int .i64 4,.int .i32 0,.int .u8 p,.int .u8 0,.int .u8 f,v',.string ⟨#[]⟩])/\w'.ownsRow w.heap.size 3 1 v' l.length (Ak l)/\Below w.heap.size w w'
def Ad (l:List Int):List Int:=if l= [-1] then [] else l
section
variable {w w1:World} {g B:Nat} {t:TypeId} {a b c d e f h:Value}
theorem Box.Du (bx:Box w1 g t #[a,b,c,d,e,f,h]) (p0 p1 p2 p3 p4 p5 p6:Value):Box (((((((w1.setCell ⟨g,0,none⟩ p0).setCell ⟨g,1,none⟩ p1).setCell ⟨g,2,none⟩ p2).setCell ⟨g,3,none⟩ p3).setCell ⟨g,4,none⟩ p4).setCell ⟨g,5,none⟩ p5).setCell ⟨g,6,none⟩ p6) g t #[p0,p1,p2,p3,p4,p5,p6] :=by
 have:=((((((bx.set 0 p0).set 1 p1).set 2 p2).set 3 p3).set 4 p4).set 5 p5).set 6 p6
 simpa using this
theorem Am (hb:Below B w w1) (hg:B<=g) (p0 p1 p2 p3 p4 p5 p6:Value):Below B w (((((((w1.setCell ⟨g,0,none⟩ p0).setCell ⟨g,1,none⟩ p1).setCell ⟨g,2,none⟩ p2).setCell ⟨g,3,none⟩ p3).setCell ⟨g,4,none⟩ p4).setCell ⟨g,5,none⟩ p5).setCell ⟨g,6,none⟩ p6):=
 ((((((hb.setCell hg _).setCell hg _).setCell hg _).setCell hg _).setCell hg _).setCell hg _).setCell hg _
theorem FI {base size n:Nat} {et:TypeId} {v:Value} {xs:List Value} (ho:w1.ownsRow base et size v n xs) (hg:v.ownBlock≠some g) (p0 p1 p2 p3 p4 p5 p6:Value):(((((((w1.setCell ⟨g,0,none⟩ p0).setCell ⟨g,1,none⟩ p1).setCell ⟨g,2,none⟩ p2).setCell ⟨g,3,none⟩ p3).setCell ⟨g,4,none⟩ p4).setCell ⟨g,5,none⟩ p5).setCell ⟨g,6,none⟩ p6).ownsRow base et size v n xs:=
 CJ (CJ (CJ (CJ (CJ (CJ (CJ ho hg _) hg _) hg _) hg _) hg _) hg _) hg _
end
theorem OU (f:Int) (A:Option Addr) (n c:Nat) (l:List Int) (w:World) (hA:Seen w w.heap.size A n (Ak l)) (hn:n<=1099511627776):
  Calls AA.prog 7 #[.int .u8 f,.slice A n c] w (Made w 0 f (Ad l)):=by
 have hl:l.length=n:=by simpa [Ak] using hA.1
 have OW:=hide (fun (o:Obj)=>Ko A n c l (w.alloc o) ((hA.alloc (Nat.le_refl _) _).more (by simp)) hn)
 have ON:=hide (fun (o:Obj)=>Ko none 0 0 [] (w.alloc o) (Seen.D5 _ _ _) (by omega))
 have HL:=hide hl
 by_cases h1:n=1
 ·obtain⟨ad,u,rfl,_,hu,hc⟩:=hA.at_ (k:=0) (by omega)
  rw [Ak,List.getElem?_map] at hu
  obtain⟨x,hx,rfl⟩:=Option.map_eq_some_iff.1 hu
  have hll:l= [x] :=by
   rcases l with _ | ⟨y,_ | ⟨z,l⟩⟩<;>simp at hl hx<;>try omega
   subst hx
   rfl
  rw [show ad.add 0=ad from by simp [Addr.add]] at hc
  have hac:=fun o=>(World.cell?_alloc_lt w o ad (World.block_lt_of_cell? w ad hc)).trans hc
  have hd0:((n:Int)==1)=true:=by simp [h1]
  subst h1
  by_cases hx1:x= -1
  ·have HE:=hide (show Ad l= [] by unfold Ad;rw [hll,hx1];rfl)
   have hd:(x== -1)=true:=by simpa using hx1
   clear hA hl hu hx hll hx1
   go_enter AA.func7,AA.ntmps7
   go_wp2_with fail
   refine(ON.out _).mono ?_
   rintro e w1 ⟨v1,rfl,h1,b1⟩
   obtain⟨A1,c1,rfl,_⟩:=Bg h1
   have bx:=(Box.new w 38 #[.int .i64 0,.int .i32 0,.int .u8 0,.int .u8 0,.int .u8 0,.slice none 0 0,.string ⟨#[]⟩]).below b1 (by simp)
   have fr:=bx.frozen
   obtain⟨k0,k1,k2,k3,k4,k5,k6⟩:=Box.seven bx
   have bb:Below w.heap.size w w1:=((Below.refl _ w).alloc (Nat.le_refl _) _).trans (b1.mono (by simp))
   go_wp2_with fail
   obtain⟨j0,j1,j2,j3,j4,j5,j6⟩:=Box.seven (Box.Du bx (.int .i64 4) (.int .i32 0) (.int .u8 0) (.int .u8 0) (.int .u8 f) (.slice A1 0 c1) (.string ⟨#[]⟩))
   have ow:=FI h1 (AQ h1 bx (by decide)) (.int .i64 4) (.int .i32 0) (.int .u8 0) (.int .u8 0) (.int .u8 f) (.slice A1 0 c1) (.string ⟨#[]⟩)
   have bl:=Am bb (Nat.le_refl _) (.int .i64 4) (.int .i32 0) (.int .u8 0) (.int .u8 0) (.int .u8 f) (.slice A1 0 c1) (.string ⟨#[]⟩)
   generalize (((((((w1.setCell ⟨w.heap.size,0,none⟩ (.int .i64 4)).setCell ⟨w.heap.size,1,none⟩ (.int .i32 0)).setCell ⟨w.heap.size,2,none⟩ (.int .u8 0)).setCell ⟨w.heap.size,3,none⟩ (.int .u8 0)).setCell ⟨w.heap.size,4,none⟩ (.int .u8 f)).setCell ⟨w.heap.size,5,none⟩ (.slice A1 0 c1)).setCell ⟨w.heap.size,6,none⟩ (.string ⟨#[]⟩))=W at*
   refine bodyPost_ret (v:=.agg #[.int .i64 4,.int .i32 0,.int .u8 0,.int .u8 0,.int .u8 f,.slice A1 0 c1,.string ⟨#[]⟩]) (by simp [results,AA.results7,go_sem,j0,j1,j2,j3,j4,j5,j6]) rfl ⟨_,rfl,?_,bl⟩
   rw [HE.out]
   exact own_base' ow (by simp)
  ·have HE:=hide (show Ad l=l by unfold Ad;rw [if_neg];rw [hll];simpa using hx1)
   have hd:(x== -1)=false:=by simpa using hx1
   clear hA hu hx hll hx1 hl
   go_enter AA.func7,AA.ntmps7
   go_wp2_with fail
   refine(OW.out _).mono ?_
   rintro e w1 ⟨v1,rfl,h1,b1⟩
   obtain⟨A1,c1,rfl,_⟩:=Bg h1
   have bx:=(Box.new w 38 #[.int .i64 0,.int .i32 0,.int .u8 0,.int .u8 0,.int .u8 0,.slice none 0 0,.string ⟨#[]⟩]).below b1 (by simp)
   have fr:=bx.frozen
   obtain⟨k0,k1,k2,k3,k4,k5,k6⟩:=Box.seven bx
   have bb:Below w.heap.size w w1:=((Below.refl _ w).alloc (Nat.le_refl _) _).trans (b1.mono (by simp))
   go_wp2_with fail
   obtain⟨j0,j1,j2,j3,j4,j5,j6⟩:=Box.seven (Box.Du bx (.int .i64 4) (.int .i32 0) (.int .u8 0) (.int .u8 0) (.int .u8 f) (.slice A1 1 c1) (.string ⟨#[]⟩))
   have ow:=FI h1 (AQ h1 bx (by decide)) (.int .i64 4) (.int .i32 0) (.int .u8 0) (.int .u8 0) (.int .u8 f) (.slice A1 1 c1) (.string ⟨#[]⟩)
   have bl:=Am bb (Nat.le_refl _) (.int .i64 4) (.int .i32 0) (.int .u8 0) (.int .u8 0) (.int .u8 f) (.slice A1 1 c1) (.string ⟨#[]⟩)
   generalize (((((((w1.setCell ⟨w.heap.size,0,none⟩ (.int .i64 4)).setCell ⟨w.heap.size,1,none⟩ (.int .i32 0)).setCell ⟨w.heap.size,2,none⟩ (.int .u8 0)).setCell ⟨w.heap.size,3,none⟩ (.int .u8 0)).setCell ⟨w.heap.size,4,none⟩ (.int .u8 f)).setCell ⟨w.heap.size,5,none⟩ (.slice A1 1 c1)).setCell ⟨w.heap.size,6,none⟩ (.string ⟨#[]⟩))=W at*
   refine bodyPost_ret (v:=.agg #[.int .i64 4,.int .i32 0,.int .u8 0,.int .u8 0,.int .u8 f,.slice A1 1 c1,.string ⟨#[]⟩]) (by simp [results,AA.results7,go_sem,j0,j1,j2,j3,j4,j5,j6]) rfl ⟨_,rfl,?_,bl⟩
   rw [HE.out,HL.out]
   exact own_base' ow (by simp)
 ·have HE:=hide (show Ad l=l by unfold Ad;rw [if_neg (fun e=>h1 (by rw [<- hl,e];rfl))])
  have hd0:((n:Int)==1)=false:=by simp;omega
  clear hA hl h1
  ·go_enter AA.func7,AA.ntmps7
   go_wp2_with fail
   refine(OW.out _).mono ?_
   rintro e w1 ⟨v1,rfl,h1,b1⟩
   obtain⟨A1,c1,rfl,_⟩:=Bg h1
   have bx:=(Box.new w 38 #[.int .i64 0,.int .i32 0,.int .u8 0,.int .u8 0,.int .u8 0,.slice none 0 0,.string ⟨#[]⟩]).below b1 (by simp)
   have fr:=bx.frozen
   obtain⟨k0,k1,k2,k3,k4,k5,k6⟩:=Box.seven bx
   have bb:Below w.heap.size w w1:=((Below.refl _ w).alloc (Nat.le_refl _) _).trans (b1.mono (by simp))
   go_wp2_with fail
   obtain⟨j0,j1,j2,j3,j4,j5,j6⟩:=Box.seven (Box.Du bx (.int .i64 4) (.int .i32 0) (.int .u8 0) (.int .u8 0) (.int .u8 f) (.slice A1 n c1) (.string ⟨#[]⟩))
   have ow:=FI h1 (AQ h1 bx (by decide)) (.int .i64 4) (.int .i32 0) (.int .u8 0) (.int .u8 0) (.int .u8 f) (.slice A1 n c1) (.string ⟨#[]⟩)
   have bl:=Am bb (Nat.le_refl _) (.int .i64 4) (.int .i32 0) (.int .u8 0) (.int .u8 0) (.int .u8 f) (.slice A1 n c1) (.string ⟨#[]⟩)
   generalize (((((((w1.setCell ⟨w.heap.size,0,none⟩ (.int .i64 4)).setCell ⟨w.heap.size,1,none⟩ (.int .i32 0)).setCell ⟨w.heap.size,2,none⟩ (.int .u8 0)).setCell ⟨w.heap.size,3,none⟩ (.int .u8 0)).setCell ⟨w.heap.size,4,none⟩ (.int .u8 f)).setCell ⟨w.heap.size,5,none⟩ (.slice A1 n c1)).setCell ⟨w.heap.size,6,none⟩ (.string ⟨#[]⟩))=W at*
   refine bodyPost_ret (v:=.agg #[.int .i64 4,.int .i32 0,.int .u8 0,.int .u8 0,.int .u8 f,.slice A1 n c1,.string ⟨#[]⟩]) (by simp [results,AA.results7,go_sem,j0,j1,j2,j3,j4,j5,j6]) rfl ⟨_,rfl,?_,bl⟩
   rw [HE.out,HL.out]
   exact own_base' ow (by simp)
def Bq (l:List Int) (i:Int):Int:=if i<0\/(l.length:Int)<=i then-1 else l.getD i.toNat 0
theorem Lh (k r p q f:Int) (A:Option Addr) (n c:Nat) (l:List Int) (s:ByteArray) (i:Int) (w:World) (hA:Seen w w.heap.size A n (Ak l)):
  Calls AA.prog 42 #[.agg #[.int .i64 k,.int .i32 r,.int .u8 p,.int .u8 q,.int .u8 f,.slice A n c,.string s],.int .i64 i] w fun e w'=>e=.returned (.int .i64 (Bq l i))/\Below w.heap.size w w':=by
 have hl:l.length=n:=by simpa [Ak] using hA.1
 have HB:=hide (fun o:Obj=>(Below.refl w.heap.size w).alloc (Nat.le_refl _) o)
 by_cases h0:i<0
 ·have HE:=hide (show Bq l i= -1 by unfold Bq;rw [if_pos (.inl h0)])
  clear hA hl
  go_enter AA.func42,AA.ntmps42
  go_wp2_with fail
  go_ret
  exact⟨Bh HE.out.symm,HB.out _⟩
 by_cases h1:(n:Int)<=i
 ·have HE:=hide (show Bq l i= -1 by unfold Bq;rw [if_pos (.inr (by rw [hl];exact h1))])
  clear hA hl
  go_enter AA.func42,AA.ntmps42
  go_wp2_with fail
  go_ret
  exact⟨Bh HE.out.symm,HB.out _⟩
 obtain⟨m,rfl⟩:=Int.eq_ofNat_of_zero_le (show 0<=i by omega)
 have hm:m<n:=by omega
 obtain⟨ad,u,rfl,_,hu,hc⟩:=hA.at_ hm
 rw [Ak,List.getElem?_map] at hu
 obtain⟨x,hx,rfl⟩:=Option.map_eq_some_iff.1 hu
 have HE:=hide (show Bq l (m:Int)=x by unfold Bq;rw [if_neg (by omega),List.getD_eq_getElem?_getD,Int.toNat_natCast,hx];rfl)
 have hac:=fun o=>(World.cell?_alloc_lt w o (ad.add m) (World.block_lt_of_cell? w (ad.add m) hc)).trans hc
 have hbt:((m:Int)).toNat=m:=by simp
 clear hA hu hx hl hc
 go_enter AA.func42,AA.ntmps42
 go_wp2_with fail
 go_ret
 exact⟨Bh HE.out.symm,HB.out _⟩
def Kt (l:List Int) (i none lo hi:Int):Int:=
 let q:=Bq l i
 let m:=if q= -1\/(q=0/\0<lo) then none else q
 min (max m lo) hi
theorem OV (k r p q f:Int) (A:Option Addr) (n c:Nat) (l:List Int) (s:ByteArray) (i none lo hi:Int) (w:World) (hA:Seen w w.heap.size A n (Ak l)):
  Calls AA.prog 26 #[.agg #[.int .i64 k,.int .i32 r,.int .u8 p,.int .u8 q,.int .u8 f,.slice A n c,.string s],.int .i64 i,.int .i64 none,.int .i64 lo,.int .i64 hi] w fun e w'=>e=.returned (.int .i64 (Kt l i none lo hi))/\Below w.heap.size w w':=by
 have HB:=hide (fun o:Obj=>(Below.refl w.heap.size w).alloc (Nat.le_refl _) o)
 have PA:=hide (fun (o:Obj)=>Lh k r p q f A n c l s i (w.alloc o) ((hA.alloc (Nat.le_refl _) _).more (by simp)))
 generalize hx:Bq l i=x at PA
 have HA:=hide (show Kt l i none lo hi=min (max (if x= -1\/(x=0/\0<lo) then none else x) lo) hi by rw [<- hx];rfl)
 generalize Kt l i none lo hi=R at*
 clear hA hx
 by_cases h1:x= -1
 ·have d1:(x== -1)=true:=by simpa using h1
  have HM:=hide (show R=min (max none lo) hi by rw [HA.out,if_pos (.inl h1)])
  clear h1
  rcases Int.lt_or_le none lo with a1 | a1
  ·rcases Int.lt_or_le hi lo with a2 | a2
   ·have HE:=hide (show R=hi by rw [HM.out];simp only [Int.max_def,Int.min_def];(repeat' split)<;>omega)
    go_enter AA.func26,AA.ntmps26
    go_wp2_with fail
    refine(PA.out _).mono ?_
    rintro e w1 ⟨rfl,b1⟩
    have b2:=(HB.out _).trans (b1.mono (by simp))
    clear b1
    go_wp2_with fail
    go_ret
    exact⟨Bh HE.out.symm,b2⟩
   ·have HE:=hide (show R=lo by rw [HM.out];simp only [Int.max_def,Int.min_def];(repeat' split)<;>omega)
    go_enter AA.func26,AA.ntmps26
    go_wp2_with fail
    refine(PA.out _).mono ?_
    rintro e w1 ⟨rfl,b1⟩
    have b2:=(HB.out _).trans (b1.mono (by simp))
    clear b1
    go_wp2_with fail
    go_ret
    exact⟨Bh HE.out.symm,b2⟩
  ·rcases Int.lt_or_le hi none with a2 | a2
   ·have HE:=hide (show R=hi by rw [HM.out];simp only [Int.max_def,Int.min_def];(repeat' split)<;>omega)
    go_enter AA.func26,AA.ntmps26
    go_wp2_with fail
    refine(PA.out _).mono ?_
    rintro e w1 ⟨rfl,b1⟩
    have b2:=(HB.out _).trans (b1.mono (by simp))
    clear b1
    go_wp2_with fail
    go_ret
    exact⟨Bh HE.out.symm,b2⟩
   ·have HE:=hide (show R=none by rw [HM.out];simp only [Int.max_def,Int.min_def];(repeat' split)<;>omega)
    go_enter AA.func26,AA.ntmps26
    go_wp2_with fail
    refine(PA.out _).mono ?_
    rintro e w1 ⟨rfl,b1⟩
    have b2:=(HB.out _).trans (b1.mono (by simp))
    clear b1
    go_wp2_with fail
    go_ret
    exact⟨Bh HE.out.symm,b2⟩
 have d1:(x== -1)=false:=by simpa using h1
 by_cases h2:x=0
 ·have d2:(x==0)=true:=by simpa using h2
  by_cases h3:0<lo
  ·have HM:=hide (show R=min (max none lo) hi by rw [HA.out,if_pos (.inr ⟨h2,h3⟩)])
   clear h1 h2
   rcases Int.lt_or_le none lo with a1 | a1
   ·rcases Int.lt_or_le hi lo with a2 | a2
    ·have HE:=hide (show R=hi by rw [HM.out];simp only [Int.max_def,Int.min_def];(repeat' split)<;>omega)
     go_enter AA.func26,AA.ntmps26
     go_wp2_with fail
     refine(PA.out _).mono ?_
     rintro e w1 ⟨rfl,b1⟩
     have b2:=(HB.out _).trans (b1.mono (by simp))
     clear b1
     go_wp2_with fail
     go_ret
     exact⟨Bh HE.out.symm,b2⟩
    ·have HE:=hide (show R=lo by rw [HM.out];simp only [Int.max_def,Int.min_def];(repeat' split)<;>omega)
     go_enter AA.func26,AA.ntmps26
     go_wp2_with fail
     refine(PA.out _).mono ?_
     rintro e w1 ⟨rfl,b1⟩
     have b2:=(HB.out _).trans (b1.mono (by simp))
     clear b1
     go_wp2_with fail
     go_ret
     exact⟨Bh HE.out.symm,b2⟩
   ·rcases Int.lt_or_le hi none with a2 | a2
    ·have HE:=hide (show R=hi by rw [HM.out];simp only [Int.max_def,Int.min_def];(repeat' split)<;>omega)
     go_enter AA.func26,AA.ntmps26
     go_wp2_with fail
     refine(PA.out _).mono ?_
     rintro e w1 ⟨rfl,b1⟩
     have b2:=(HB.out _).trans (b1.mono (by simp))
     clear b1
     go_wp2_with fail
     go_ret
     exact⟨Bh HE.out.symm,b2⟩
    ·have HE:=hide (show R=none by rw [HM.out];simp only [Int.max_def,Int.min_def];(repeat' split)<;>omega)
     go_enter AA.func26,AA.ntmps26
     go_wp2_with fail
     refine(PA.out _).mono ?_
     rintro e w1 ⟨rfl,b1⟩
     have b2:=(HB.out _).trans (b1.mono (by simp))
     clear b1
     go_wp2_with fail
     go_ret
     exact⟨Bh HE.out.symm,b2⟩
  ·have HM:=hide (show R=min (max x lo) hi by rw [HA.out,if_neg (by omega)])
   clear h1 h2
   rcases Int.lt_or_le x lo with a1 | a1
   ·rcases Int.lt_or_le hi lo with a2 | a2
    ·have HE:=hide (show R=hi by rw [HM.out];simp only [Int.max_def,Int.min_def];(repeat' split)<;>omega)
     go_enter AA.func26,AA.ntmps26
     go_wp2_with fail
     refine(PA.out _).mono ?_
     rintro e w1 ⟨rfl,b1⟩
     have b2:=(HB.out _).trans (b1.mono (by simp))
     clear b1
     go_wp2_with fail
     go_ret
     exact⟨Bh HE.out.symm,b2⟩
    ·have HE:=hide (show R=lo by rw [HM.out];simp only [Int.max_def,Int.min_def];(repeat' split)<;>omega)
     go_enter AA.func26,AA.ntmps26
     go_wp2_with fail
     refine(PA.out _).mono ?_
     rintro e w1 ⟨rfl,b1⟩
     have b2:=(HB.out _).trans (b1.mono (by simp))
     clear b1
     go_wp2_with fail
     go_ret
     exact⟨Bh HE.out.symm,b2⟩
   ·rcases Int.lt_or_le hi x with a2 | a2
    ·have HE:=hide (show R=hi by rw [HM.out];simp only [Int.max_def,Int.min_def];(repeat' split)<;>omega)
     go_enter AA.func26,AA.ntmps26
     go_wp2_with fail
     refine(PA.out _).mono ?_
     rintro e w1 ⟨rfl,b1⟩
     have b2:=(HB.out _).trans (b1.mono (by simp))
     clear b1
     go_wp2_with fail
     go_ret
     exact⟨Bh HE.out.symm,b2⟩
    ·have HE:=hide (show R=x by rw [HM.out];simp only [Int.max_def,Int.min_def];(repeat' split)<;>omega)
     go_enter AA.func26,AA.ntmps26
     go_wp2_with fail
     refine(PA.out _).mono ?_
     rintro e w1 ⟨rfl,b1⟩
     have b2:=(HB.out _).trans (b1.mono (by simp))
     clear b1
     go_wp2_with fail
     go_ret
     exact⟨Bh HE.out.symm,b2⟩
 ·have d2:(x==0)=false:=by simpa using h2
  have HM:=hide (show R=min (max x lo) hi by rw [HA.out,if_neg (by omega)])
  clear h1 h2
  rcases Int.lt_or_le x lo with a1 | a1
  ·rcases Int.lt_or_le hi lo with a2 | a2
   ·have HE:=hide (show R=hi by rw [HM.out];simp only [Int.max_def,Int.min_def];(repeat' split)<;>omega)
    go_enter AA.func26,AA.ntmps26
    go_wp2_with fail
    refine(PA.out _).mono ?_
    rintro e w1 ⟨rfl,b1⟩
    have b2:=(HB.out _).trans (b1.mono (by simp))
    clear b1
    go_wp2_with fail
    go_ret
    exact⟨Bh HE.out.symm,b2⟩
   ·have HE:=hide (show R=lo by rw [HM.out];simp only [Int.max_def,Int.min_def];(repeat' split)<;>omega)
    go_enter AA.func26,AA.ntmps26
    go_wp2_with fail
    refine(PA.out _).mono ?_
    rintro e w1 ⟨rfl,b1⟩
    have b2:=(HB.out _).trans (b1.mono (by simp))
    clear b1
    go_wp2_with fail
    go_ret
    exact⟨Bh HE.out.symm,b2⟩
  ·rcases Int.lt_or_le hi x with a2 | a2
   ·have HE:=hide (show R=hi by rw [HM.out];simp only [Int.max_def,Int.min_def];(repeat' split)<;>omega)
    go_enter AA.func26,AA.ntmps26
    go_wp2_with fail
    refine(PA.out _).mono ?_
    rintro e w1 ⟨rfl,b1⟩
    have b2:=(HB.out _).trans (b1.mono (by simp))
    clear b1
    go_wp2_with fail
    go_ret
    exact⟨Bh HE.out.symm,b2⟩
   ·have HE:=hide (show R=x by rw [HM.out];simp only [Int.max_def,Int.min_def];(repeat' split)<;>omega)
    go_enter AA.func26,AA.ntmps26
    go_wp2_with fail
    refine(PA.out _).mono ?_
    rintro e w1 ⟨rfl,b1⟩
    have b2:=(HB.out _).trans (b1.mono (by simp))
    clear b1
    go_wp2_with fail
    go_ret
    exact⟨Bh HE.out.symm,b2⟩
end Go.Proofs.YtoaabebgmdbjeaaDoor
namespace Go.Proofs.YtoaabebgmdbjeaaDoor
open Go.RowKit
def Jh (w:World) (p:PA.Ev × Value):Prop:= ∃Ap cp,p.2=.slice Ap p.1.params.length cp/\Seen w w.heap.size Ap p.1.params.length (Ak p.1.params)/\p.1.params.length<=1024
theorem Jh.below {w w':World} {p:PA.Ev × Value} (h:Jh w p) (b:Below w.heap.size w w'):Jh w' p:=by
 obtain⟨Ap,cp,h1,h2,h3⟩:=h
 exact⟨Ap,cp,h1,(h2.below b).more b.size,h3⟩
theorem Ji {w:World} {g:Nat} {M:List (PA.Ev × Value)} {cs:Array Value} {n:Nat} (hb:Box w g 38 cs) (hc:cs.toList=Gf M) (hn:M.length=n) (hp: ∀p∈M,Jh w p):IG w (some ⟨g,0,none⟩) n M:=by
 refine⟨hn,fun k p hk=>⟨g,rfl,hb.lt,fun j u hu=>?_,hp p (List.mem_of_getElem? hk)⟩⟩
 rw [hb.cell, <- Array.getElem?_toList,hc]
 exact II M k j p u hk hu
def Oo (w:World) (n:Nat) (xs:List Value) (e:Ending) (w':World):Prop:= ∃(A:Option Addr) (c:Nat),e=.returned (.slice A n c)/\n<=c/\Seen w' w'.heap.size A n xs/\Below w.heap.size w w'
theorem Mw {A:Option Addr} {n c:Nat} {M:List (PA.Ev × Value)} {w:World} (es:List PA.Ev) (bs:List Int) (m:Nat) (hb:PA.Az (printed es)=bs) (hm:bs.length=m) (he:M.map (·.1)=es) (hM:IG w A n M) (hf: ∀p∈M,Ik p.1) (hn:n<=100000) (ht:FZ w):
  Calls AA.prog 16 #[.slice A n c] w (Oo w m (u8s bs)):=by
 subst hb he hm
 refine(Lg A n c M w hM hf hn ht).mono ?_
 rintro e w' ⟨v,he,h1,h2⟩
 obtain⟨A,c,rfl,hc,_⟩:=Bg h1
 exact⟨A,c,he,hc,Seen.Cu h1,h2⟩
theorem Mx {e:PA.Ev} {u:Value} (h:Ik e): ∀p∈ [(e,u)],Ik p.1:=by simpa using h
theorem OX {w:World} {e:PA.Ev} {A:Option Addr} {n c:Nat} (hn:e.params.length=n) (h:Seen w w.heap.size A n (Ak e.params)) (hle:n<=1024): ∀p∈ [(e,Value.slice A n c)],Jh w p:=by
 subst hn
 intro p hp
 simp only [List.mem_singleton] at hp
 subst hp
 exact⟨A,c,rfl,h,hle⟩
end Go.Proofs.YtoaabebgmdbjeaaDoor
namespace Go.Proofs.YtoaabebgmdbjeaaDoor
open Go Go.RowKit
section
variable {P:Program} {ops:Array Oper} {rest:List Oper} {o o2 o3:Oper} {a:Act} {w:World} {Q:Exit->Act->World->Prop} {x:Value} {s T:SN.Sc}
end
section
variable {w0 w w1 w8:World} {s T:SN.Sc} {x:Value} {g gR gE:Nat} {cs csR:Array Value} {t:Tmp}
end
end Go.Proofs.YtoaabebgmdbjeaaDoor
