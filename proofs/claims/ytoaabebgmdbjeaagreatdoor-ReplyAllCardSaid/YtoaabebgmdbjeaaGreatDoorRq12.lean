/- A part of the proof: Shelf, SeqNum, SeqPut, SeqBox. -/
import Derived.Test.YtoaabebgmdbjeaaGreatDoorRq13
import Derived.Shelf.LaysM
import Derived.Shelf.Strconv.AppendIntPublic10
import Derived.Shelf.Slices.Equal
import Derived.Shelf.Slices.Empties2
import Derived.Test.YtoaabebgmdbjeaaGreatDoorProg
import Derived.Lib.LaidTab
import Derived.Lib.AppendStr
set_option maxRecDepth 100000
set_option maxHeartbeats 16000000
set_option linter.unusedVariables false
namespace Go.Proofs.YtoaabebgmdbjeaaGreatDoor
open Go.Shelf
def Tryz.laysM176_ren:Go.Shelf.Ren:=⟨fun | 176=>189 | 249=>207 | 288=>214 | 283=>222 | 284=>223 | 285=>224 | 286=>225 | 129=>231 | 317=>230 | 318=>232 | 319=>233 | 320=>234 | 337=>235 | 338=>163 | n=>n,fun | 37=>30 | 2=>2 | 3=>3 | 53=>27 | 4=>4 | 9=>9 | 171=>214 | 0=>0 | 173=>216 | 212=>220 | 51=>221 | 5=>5 | 20=>20 | 213=>222 | 46=>115 | 232=>225 | 233=>192 | n=>n,fun | 17=>7 | 18=>8 | 19=>4 | n=>n⟩
theorem Tryz.laysM176:Go.Proofs.LaysM.n176 Tryz.prog Tryz.laysM176_ren:={
  mixed:=by kernel_rfl
  f129:=Tryz.func231.trans (congrArg some (by kernel_rfl))
  f176:=Tryz.func189.trans (congrArg some (by kernel_rfl))
  f249:=Tryz.func207.trans (congrArg some (by kernel_rfl))
  f283:=Tryz.func222.trans (congrArg some (by kernel_rfl))
  f284:=Tryz.func223.trans (congrArg some (by kernel_rfl))
  f285:=Tryz.func224.trans (congrArg some (by kernel_rfl))
  f286:=Tryz.func225.trans (congrArg some (by kernel_rfl))
  f288:=Tryz.func214.trans (congrArg some (by kernel_rfl))
  f317:=Tryz.func230.trans (congrArg some (by kernel_rfl))
  f318:=Tryz.func232.trans (congrArg some (by kernel_rfl))
  f319:=Tryz.func233.trans (congrArg some (by kernel_rfl))
  f320:=Tryz.func234.trans (congrArg some (by kernel_rfl))
  f337:=Tryz.func235.trans (congrArg some (by kernel_rfl))
  f338:=Tryz.func163.trans (congrArg some (by kernel_rfl))
  t0:=Tryz.underlying0
  a0:=Tryz.isAgg0
  z0:=Tryz.sizeOf0
  v0:=Tryz.zeroValue0
  t2:=Tryz.underlying2
  a2:=Tryz.isAgg2
  z2:=Tryz.sizeOf2
  v2:=Tryz.zeroValue2
  t3:=Tryz.underlying3
  a3:=Tryz.isAgg3
  z3:=Tryz.sizeOf3
  v3:=Tryz.zeroValue3
  t4:=Tryz.underlying4
  a4:=Tryz.isAgg4
  z4:=Tryz.sizeOf4
  v4:=Tryz.zeroValue4
  t5:=Tryz.underlying5
  a5:=Tryz.isAgg5
  z5:=Tryz.sizeOf5
  v5:=Tryz.zeroValue5
  t9:=Tryz.underlying9
  a9:=Tryz.isAgg9
  z9:=Tryz.sizeOf9
  v9:=Tryz.zeroValue9
  t20:=Tryz.underlying20
  a20:=Tryz.isAgg20
  z20:=Tryz.sizeOf20
  v20:=Tryz.zeroValue20
  t37:=Tryz.underlying30
  a37:=Tryz.isAgg30
  z37:=Tryz.sizeOf30
  v37:=Tryz.zeroValue30
  t46:=Tryz.underlying115
  a46:=Tryz.isAgg115
  z46:=Tryz.sizeOf115
  v46:=Tryz.zeroValue115
  t51:=Tryz.underlying221
  a51:=Tryz.isAgg221
  z51:=Tryz.sizeOf221
  v51:=Tryz.zeroValue221
  t53:=Tryz.underlying27
  a53:=Tryz.isAgg27
  z53:=Tryz.sizeOf27
  v53:=Tryz.zeroValue27
  t171:=Tryz.underlying214
  a171:=Tryz.isAgg214
  z171:=Tryz.sizeOf214
  v171:=Tryz.zeroValue214
  t173:=Tryz.underlying216
  a173:=Tryz.isAgg216
  z173:=Tryz.sizeOf216
  v173:=Tryz.zeroValue216
  t212:=Tryz.underlying220
  a212:=Tryz.isAgg220
  z212:=Tryz.sizeOf220
  v212:=Tryz.zeroValue220
  t213:=Tryz.underlying222
  a213:=Tryz.isAgg222
  z213:=Tryz.sizeOf222
  t232:=Tryz.underlying225
  a232:=Tryz.isAgg225
  z232:=Tryz.sizeOf225
  v232:=Tryz.zeroValue225
  t233:=Tryz.underlying192
  a233:=Tryz.isAgg192
  z233:=Tryz.sizeOf192
  v233:=Tryz.zeroValue192
  g17:=by kernel_rfl
  g18:=by kernel_rfl
  g19:=by kernel_rfl
  i0:=by kernel_rfl
  i2:=by kernel_rfl
  i3:=by kernel_rfl
  i4:=by kernel_rfl
  i5:=by kernel_rfl
  i9:=by kernel_rfl
  i20:=by kernel_rfl
  i37:=by kernel_rfl
  i46:=by kernel_rfl
  i51:=by kernel_rfl
  i53:=by kernel_rfl
  i171:=by kernel_rfl
  i173:=by kernel_rfl
  i212:=by kernel_rfl
  i232:=by kernel_rfl
  i233:=by kernel_rfl
  m17:=by kernel_rfl
  m18:=by kernel_rfl
  m19:=by kernel_rfl}
def Tryz.lays111_ren:Go.Shelf.Ren:=⟨fun | 111=>184 | n=>n,fun | 28=>22 | 3=>3 | 4=>4 | 0=>0 | n=>n,fun | n=>n⟩
theorem Tryz.lays111:Go.Proofs.Lays.n111 Tryz.prog Tryz.lays111_ren:={
  mixed:=by kernel_rfl
  f111:=Tryz.func184.trans (congrArg some (by kernel_rfl))
  t0:=Tryz.underlying0
  a0:=Tryz.isAgg0
  z0:=Tryz.sizeOf0
  v0:=Tryz.zeroValue0
  t3:=Tryz.underlying3
  a3:=Tryz.isAgg3
  z3:=Tryz.sizeOf3
  v3:=Tryz.zeroValue3
  t4:=Tryz.underlying4
  a4:=Tryz.isAgg4
  z4:=Tryz.sizeOf4
  v4:=Tryz.zeroValue4
  t28:=Tryz.underlying22
  a28:=Tryz.isAgg22
  z28:=Tryz.sizeOf22
  v28:=Tryz.zeroValue22}
end Go.Proofs.YtoaabebgmdbjeaaGreatDoor
namespace Go.Proofs.YtoaabebgmdbjeaaGreatDoor
open Go.RowKit
def KO (w:World):Prop:=Lib.TabIs Tryz.prog w "internal/strconv.uint64pow10" .u64 Lib.pow10Tab
theorem KO.keep {w w':World} (h:KO w) (hb:Below w.heap.size w w'):KO w':=Lib.tabBelow_of_tabIs h w' hb
theorem Mw: ∀(k n:Nat),n<10 ^ (k+1)->Lib.byteCells (Lib.decDigits n)=u8s (PA.Gw k n)
 | 0,n,h=>by
  have hn:n<10:=by simpa using h
  rw [Lib.decDigits_one hn]
  simp [Lib.byteCells,u8s,PA.Gw]
  omega
 | k+1,n,h=>by
  unfold PA.Gw
  split
  ·rename_i hn
   rw [Lib.decDigits_one hn]
   simp [Lib.byteCells,u8s]
   omega
  ·rename_i hn
   have ih:=Mw k (n / 10) (by rw [Nat.pow_succ] at h;omega)
   rw [Lib.decDigits,dif_neg hn,Lib.byteCells_append,ih,Uo]
   congr 1
   simp [Lib.byteCells,u8s]
   omega
theorem Qy {x:Int} (h0:0<=x) (h1:x<=65535):Lib.byteCells (Lib.itoa x)=u8s (PA.FY x.toNat):=by
 unfold Lib.itoa
 rw [if_neg (by omega)]
 exact Mw 20 x.toNat (Nat.lt_of_le_of_lt (show x.toNat<=65535 by omega) (by decide))
theorem ZE {x:Int} (h0:0<=x) (h1:x<=65535):(Lib.itoa x).length=(PA.FY x.toNat).length:=by
 have:=congrArg List.length (Qy h0 h1)
 simpa [u8s,Lib.byteCells] using this
theorem JW (B n:Nat) (x:Int) (h0:0<=x) (h1:x<=65535) (v:Value) (xs:List Value) (w:World) (hown:w.ownsRow B 5 1 v n xs) (hB:B<=w.heap.size) (hn:n<=1099511627776) (ht: ∀w',Below B w w'->KO w'):
  Calls Tryz.prog 189 #[v,.int .i64 x,.int .i64 10] w fun e w'=> ∃v',e=.returned v'/\w'.ownsRow B 5 1 v' (n+(PA.FY x.toNat).length) (xs++u8s (PA.FY x.toNat))/\Below B w w'/\Lib.OthersKept 5 none w w':=by
 refine(Any.strconv_AppendInt_10 Tryz.laysM176 B n x (by omega) (by omega) v xs w hown hB (by omega) ht).mono ?_
 rintro e w' ⟨v',rfl,h2,h3,h4⟩
 rw [Qy h0 h1,ZE h0 h1] at h2
 exact⟨v',rfl,h2,h3,h4⟩
theorem iL:Tryz.prog.globalNamed "internal/strconv.uint64pow10" =some 7:=by kernel_rfl
theorem mM:(Tryz.prog.globals[7]?).map (·.type)=some 220:=by kernel_rfl
theorem Wl:tiled Tryz.prog 4 220=true:=by kernel_rfl
theorem ZF:flat (H:=Unit) Rows.laid_internal_strconv_uint64pow10=some (Lib.pow10Tab.map fun z=>Value.int .u64 z):=by kernel_rfl
theorem Wm {w:World} {l:List (String × DataW Unit)} (h:laidMet Tryz.prog l w) (hm:("internal/strconv.uint64pow10",Rows.laid_internal_strconv_uint64pow10)∈l):KO w:=by
 obtain⟨t,ht⟩:=DV 4 iL mM Wl ZF (by rw [show(Lib.pow10Tab.map fun z=>Value.int .u64 z).length=20 from by kernel_rfl];omega) h hm
 unfold KO Lib.TabIs World.var?
 rw [iL]
 simp [ht]
end Go.Proofs.YtoaabebgmdbjeaaGreatDoor
namespace Go.Proofs.YtoaabebgmdbjeaaGreatDoor
open Go.RowKit
theorem GL (base:Nat) (v:Value) (n:Nat) (xs:List Value) (b:Int) (w:World) (hown:w.ownsRow base 5 1 v n xs) (hn:n<=1099511627770) (hbase:base<=w.heap.size):
  Calls Tryz.prog 154 #[v,.int .u8 b] w (SH base 5 w v n xs (u8s (PA.Bn b)) fun v'=>v'):=by
 obtain⟨i0,hi,hz0,hz1,hz2⟩:=info_parts Dy
 by_cases hb:b=0
 ·subst hb
  go_enter Tryz.func154,Tryz.ntmps154
  go_wp2_with fail
  go_ret
  exact⟨v,rfl,by simpa [PA.Bn,u8s] using hown,Ja _ _,Moved.refl _ _⟩
 ·have hd:(b==0)=false:=by simpa using hb
  have HE:=hide (show PA.Bn b= [b] by unfold PA.Bn;rw [if_neg hb])
  clear hb
  go_enter Tryz.func154,Tryz.ntmps154
  go_wp2_with (at_builtin;refine Eh rfl (.tmp 8) (.tmp 10) 30 rfl base 5 i0 _ 1 Tryz.underlying30 hi hz0 hz1 hz2 rfl v n xs rfl hown _ _ _ rfl rfl rfl (by omega) (by omega) hbase ?_;intro v' w1 hown1 hg1 hm1)
  go_ret
  refine⟨v',rfl,?_,hg1,hm1⟩
  rw [HE.out]
  exact hown1
structure Kx (base:Nat) (w0 w:World):Prop where
 below:Below base w0 w
 others:Lib.OthersKept 5 none w0 w
section
variable {base:Nat} {w0 w w':World}
theorem Kx.refl (base:Nat) (w:World):Kx base w w:=⟨Below.refl _ _,Lib.OthersKept.refl _ _ _⟩
theorem Kx.trans (h:Kx base w0 w) (k:Kx base w w'):Kx base w0 w':=⟨h.below.trans k.below,h.others.trans k.others⟩
theorem Kx.of_below (h:Below w0.heap.size w0 w) (hb:base<=w0.heap.size):Kx base w0 w:=⟨h.mono hb,fun k o hk _ _=>by
 have hlt:k<w0.heap.size:=(Array.getElem?_eq_some_iff.1 hk).1
 rw [h.block k hlt]
 exact hk⟩
theorem Kx.alloc (h:Kx base w0 w) (hb:base<=w.heap.size) (o:Obj):Kx base w0 (w.alloc o):=h.trans (Kx.of_below ((Below.refl _ _).alloc (Nat.le_refl _) _) hb)
theorem Kx.drew (h:Kx base w0 w):Kx base w0 w.drew:=⟨h.below.drew,h.others.drew⟩
theorem Kx.grown {n:Nat} {v:Value} {xs:List Value} (h:Kx base w0 w) (hown:w.ownsRow base 5 1 v n xs) (hg:w.grownBy w' v.ownBlock) (hb:base<=w.heap.size):Kx base w0 w':=h.trans ⟨Db hg hb (fun g hg=>(hown.lt g hg).1),fun k o hk _ ho=>by
 have hlt:k<w.heap.size:=(Array.getElem?_eq_some_iff.1 hk).1
 rw [hg.block k hlt (fun e=>by
  obtain⟨cur,hc⟩:=Jp hown e.symm
  unfold Box at hc
  rw [hk] at hc
  exact ho cur (0,0) (Option.some.inj hc))]
 exact hk⟩
theorem Kx.box (h:Kx base w0 w) {g:Nat} {t:TypeId} {cs:Array Value} (hb:Box w0 g t cs) (ht:t≠5):Box w g t cs:=by
 refine h.others g _ hb (by simp) (fun c fz e=>?_)
 injection e with _ h2
 exact ht h2
theorem Kx.size (h:Kx base w0 w):w0.heap.size<=w.heap.size:=h.below.size
end
def D9 (base:Nat) (w:World) (n:Nat) (xs:List Value) (ys:List Int) (e:Ending) (w':World):Prop:=
 ∃v',e=.returned v'/\w'.ownsRow base 5 1 v' (n+ys.length) (xs++u8s ys)/\Kx base w w'
theorem LP: ∀(l:List Int) (x:Int),PA.joined (l++ [x])=if l= [] then PA.num x else PA.joined l++59::PA.num x
 | [],x=>rfl
 | [y],x=>by rw [if_neg (by simp)];rfl
 | y::z::l,x=>by
  have ih:=LP (z::l) x
  rw [if_neg (by simp)] at ih⊢
  show PA.num y++59::PA.joined ((z::l)++ [x])=_
  rw [ih]
  show _=(PA.num y++59::PA.joined (z::l))++59::PA.num x
  simp
theorem IC: ∀(k n:Nat),(PA.Gw k n).length<=k+1
 | 0,n=>by simp [PA.Gw]
 | k+1,n=>by
  unfold PA.Gw
  split
  ·simp
  ·have:=IC k (n / 10)
   simp
   omega
theorem VI (x:Int):(PA.num x).length<=21:=by
 unfold PA.num
 split
 ·simp
 ·exact IC 20 _
theorem IE: ∀l:List Int,(PA.joined l).length<=22*l.length
 | [] =>by simp [PA.joined]
 | [x] =>by have:=VI x;simp [PA.joined];omega
 | x::y::l=>by
  have h1:=VI x
  have h2:=IE (y::l)
  simp only [PA.joined,List.length_append,List.length_cons] at h2⊢
  omega
theorem Kx.wrote {base n:Nat} {w w':World} {xs:List Value} {ys:List Int} {e:Ending} {v v':Value} (he:e=.returned v') (hown:w.ownsRow base 5 1 v n xs) (h:w'.ownsRow base 5 1 v' (n+ys.length) (xs++u8s ys)) (hg:w.grownBy w' v.ownBlock) (hb:base<=w.heap.size):D9 base w n xs ys e w':=
 ⟨v',he,h,(Kx.refl _ _).grown hown hg hb⟩
def Mx (base:Nat) (w:World):Prop:= ∀w',Below base w w'->KO w'
theorem Mx.on {base:Nat} {w w':World} (h:Mx base w) (k:Below base w w'):Mx base w':=fun w2 k2=>h w2 (k.trans k2)
theorem Ns (base:Nat) (v:Value) (n0:Nat) (xs:List Value) (A:Option Addr) (n c:Nat) (l:List Int) (w:World) (hown:w.ownsRow base 5 1 v n0 xs) (hn0:n0<=1099511000000) (hbase:base<=w.heap.size)
  (hA:Seen w base A n (Br l)) (hn:n<=16) (hl: ∀x∈l, -1<=x/\x<=65535) (ht:Mx base w):
  Calls Tryz.prog 155 #[v,.slice A n c] w (D9 base w n0 xs (PA.joined l)):=by
 obtain⟨i0,hi,hz0,hz1,hz2⟩:=info_parts Dy
 have hlen:l.length=n:=by simpa [Br] using hA.1
 have HA:=hide hA
 have HL:=hide hl
 have HN:=hide hlen
 have HT:=hide ht
 have HO:=hide hown
 clear hA hl hlen ht
 go_enter Tryz.func155,Tryz.ntmps155
 go_wp2_with fail
 go_loopw [0,9] (fun o i wr=> ∃k:Nat,k<=n/\i=.int .i64 k/\wr.ownsRow base 5 1 o (n0+(PA.joined (l.take k)).length) (xs++u8s (PA.joined (l.take k)))/\Kx base w wr) (fun _ i _=>n-(intOf i).toNat)
 case atStart=>exact⟨0,Nat.zero_le _,rfl,by simpa [PA.joined,u8s] using HO.out,Kx.refl _ _⟩
 case round=>
  obtain⟨k,hk,rfl,ho,kx⟩:=hrel
  by_cases hlt:k<n
  ·obtain⟨ad,u,rfl,_,hu,hc⟩:=(HA.out.below kx.below).at_ hlt
   rw [Br,List.getElem?_map] at hu
   obtain⟨x,hx,rfl⟩:=Option.map_eq_some_iff.1 hu
   have hxr:=HL.out x (List.mem_of_getElem? hx)
   have hs1:=LP (l.take k) x
   rw [show l.take k++ [x] =l.take (k+1) from by rw [List.take_add_one,hx];rfl] at hs1
   have hln:=IE (l.take k)
   have hk0:l.take k= [] <->k=0:=by
    rw [<- List.length_eq_zero_iff,List.length_take,HN.out]
    omega
   rw [List.length_take] at hln
   generalize PA.joined (l.take k)=js at hs1 ho hln
   have hbw:base<=wr.heap.size:=Nat.le_trans hbase kx.size
   clear hu hx
   have Wn:x≠ -1->PA.num x=PA.FY x.toNat:=fun e=>by unfold PA.num;rw [if_neg e]
   have OX:x= -1->PA.num x= [] :=fun e=>by unfold PA.num;rw [if_pos e]
   have hdl:x≠ -1->(PA.FY x.toNat).length<=21:=fun e=>IC 20 _
   have cs:k=0\/0<k:=by omega
   rcases cs with hk1 | hk1
   ·have hd0:decide (0<(k:Int))=false:=by simp;omega
    have hd0':decide (0<k)=false:=by simp;omega
    have hk2:k<=0:=by omega
    rw [if_pos (hk0.2 hk1)] at hs1
    have hjs:js= [] :=by
     have:js.length<=0:=by omega
     exact List.eq_nil_of_length_eq_zero (by omega)
    subst hjs
    simp only [List.length_nil,Nat.add_zero,u8s,List.map_nil,List.append_nil] at ho
    by_cases hx1:x= -1
    ·have hd1:(x != -1)=false:=by simp [hx1]
     rw [OX hx1] at hs1
     have HS:=hide hs1
     have HX:=hide hx1
     clear hs1 hk0 Wn OX hk1 hx1 hdl
     go_wp2_with fail
     go_roundw
     case rel=>exact⟨k+1,by omega,by go_num,by rw [HS.out];simpa [u8s] using ho,kx⟩
     case measure=>simp [intOf];omega
    ·have hd1:(x != -1)=true:=by simpa using hx1
     rw [Wn hx1] at hs1
     have hdl:=hdl hx1
     have x0:0<=x:=by omega
     have HS:=hide hs1
     have HI:=hide (JW base n0 x x0 hxr.2 u0 xs wr ho hbw (by omega) (HT.out.on kx.below))
     clear hs1 hk0 Wn OX hk1 hx1
     go_wp2_with fail
     refine HI.out.mono ?_
     rintro e w1 ⟨v1,rfl,h1,kx0,jS⟩
     have kx1:Kx base wr w1:=⟨kx0,jS⟩
     go_wp2_with fail
     go_roundw
     case rel=>exact⟨k+1,by omega,by go_num,by rw [HS.out];exact h1,kx.trans kx1⟩
     case measure=>simp [intOf];omega
   ·have hd0:decide (0<(k:Int))=true:=by simp;omega
    have hd0':decide (0<k)=true:=by simp;omega
    rw [if_neg (fun e=>by have:=hk0.1 e;omega)] at hs1
    by_cases hx1:x= -1
    ·have hd1:(x != -1)=false:=by simp [hx1]
     rw [OX hx1] at hs1
     have HS:=hide hs1
     have HX:=hide hx1
     clear hs1 hk0 Wn OX hx1 hdl
     go_wp2_with (at_builtin;refine Eh rfl (.tmp 16) (.tmp 17) 30 rfl base 5 i0 _ 1 Tryz.underlying30 hi hz0 hz1 hz2 rfl u0 _ _ rfl ho _ _ _ rfl rfl rfl (by omega) (by omega) hbw ?_;intro v' w1 hown1 hg1 hm1)
     go_roundw
     case rel=>exact⟨k+1,by omega,by go_num,by rw [HS.out];simpa [u8s,Nat.add_assoc] using hown1,kx.grown ho hg1 hbw⟩
     case measure=>simp [intOf];omega
    ·have hd1:(x != -1)=true:=by simpa using hx1
     rw [Wn hx1] at hs1
     have hdl:=hdl hx1
     have x0:0<=x:=by omega
     have HS:=hide hs1
     have HI:=hide (fun v1 w1 h1 k1 hb1=>JW base (n0+js.length+1) x x0 hxr.2 v1 (xs++u8s js++ [.int .u8 59]) w1 h1 hb1 (by omega) (HT.out.on (Kx.below k1)))
     clear hs1 hk0 Wn OX hx1
     go_wp2_with (at_builtin;refine Eh rfl (.tmp 16) (.tmp 17) 30 rfl base 5 i0 _ 1 Tryz.underlying30 hi hz0 hz1 hz2 rfl u0 _ _ rfl ho _ _ _ rfl rfl rfl (by omega) (by omega) hbw ?_;intro v' w1 hown1 hg1 hm1)
     have kx1:=kx.grown ho hg1 hbw
     have hb1:base<=w1.heap.size:=Nat.le_trans hbase kx1.size
     refine(HI.out v' w1 hown1 kx1 hb1).mono ?_
     rintro e w2 ⟨v2,rfl,h2,kx0,jS⟩
     have kx2:Kx base w1 w2:=⟨kx0,jS⟩
     have kx3:Kx base w w2:=kx1.trans kx2
     clear kx2
     go_wp2_with fail
     go_roundw
     case rel=>exact⟨k+1,by omega,by go_num,by rw [HS.out];simpa [u8s,Nat.add_assoc,Nat.add_comm,Nat.add_left_comm] using h2,kx3⟩
     case measure=>simp [intOf];omega
  ·obtain rfl:k=n:=by omega
   rw [List.take_of_length_le (by rw [HN.out];omega)] at ho
   go_wp2_with fail
   go_ret
   exact⟨u0,rfl,ho,kx⟩
end Go.Proofs.YtoaabebgmdbjeaaGreatDoor
namespace Go.Proofs.YtoaabebgmdbjeaaGreatDoor
open Go.RowKit
theorem dS (r:Int):U.enc [r] =U.en1 r:=by simp [U.enc]
theorem Wo {r:Int} (h:PA.Ee r):U.en1 r=U.en r:=by
 have:U.isR r=true:=by
  unfold U.isR
  unfold PA.Ee at h
  simp
  omega
 simp [U.en1,this]
theorem Ov {r:Int}:(U.en r).length<=4:=by
 unfold U.en
 repeat' split
 all_goals simp
theorem mO (base:Nat) (v:Value) (n0:Nat) (xs:List Value) (r:Int) (A:Option Addr) (c:Nat) (s:ByteArray) (w:World) (hown:w.ownsRow base 5 1 v n0 xs) (hn0:n0<=1099511000000) (hbase:base<=w.heap.size) (hr:PA.Ee r):
  Calls Tryz.prog 116 #[v,.agg #[.int .i64 1,.int .i32 r,.int .u8 0,.int .u8 0,.int .u8 0,.slice A 0 c,.string s]] w (D9 base w n0 xs (U.en r)):=by
 obtain⟨i0,hi,hz0,hz1,hz2⟩:=info_parts Dy
 have hrr: -2147483648<=r/\r<=2147483647:=by unfold PA.Ee at hr;omega
 have CE:=hide (fun (w1:World) (hA:Seen w1 w1.heap.size (some ⟨w.heap.size+1,0,none⟩) 1 (aj [r]))=>TR (some ⟨w.heap.size+1,0,none⟩) 1 1 [r] w1 hA (by simpa using hrr) (by omega))
 rw [dS,Wo hr] at CE
 have HL:=hide (Ov (r:=r))
 generalize U.en r=ys at*
 clear hr hrr
 go_enter Tryz.func116,Tryz.ntmps116
 go_wp2_with fail
 refine(CE.out _ (Seen.fresh (by simp) (by simp) rfl rfl)).mono ?_
 rintro e w1 ⟨v1,rfl,h1,b1⟩
 obtain⟨A1,c1,rfl,_⟩:=Da h1
 have s1:=Seen.CY h1
 have bb:Below w.heap.size w w1:=(((Below.refl _ w).alloc (Nat.le_refl _) _).alloc (by simp) _).trans (b1.mono (by simp;omega))
 have hown1:=own_below hown bb
 clear b1 h1 hown
 have hl:=HL.out
 have hb1:base<=w1.heap.size:=Nat.le_trans hbase bb.size
 have kx:=Kx.of_below bb hbase
 clear bb
 go_wp2_with (at_builtin;refine IX rfl (.tmp 9) (.tmp 13) 30 rfl base 5 i0 _ 1 Tryz.underlying30 hi hz0 hz1 hz2 rfl v n0 xs rfl hown1 w1.heap.size A1 ys.length c1 (u8s ys) rfl s1 (Un ys) (by omega) (by omega) hb1 ?_;intro v' w2 hown2 hg2 hm2)
 go_ret
 exact⟨v',rfl,hown2,kx.grown hown1 hg2 hb1⟩
theorem mP (base:Nat) (v:Value) (n0:Nat) (xs:List Value) (b:Int) (A:Option Addr) (c:Nat) (s:ByteArray) (w:World) (hown:w.ownsRow base 5 1 v n0 xs) (hn0:n0<=1099511000000) (hbase:base<=w.heap.size):
  Calls Tryz.prog 116 #[v,.agg #[.int .i64 2,.int .i32 0,.int .u8 0,.int .u8 0,.int .u8 b,.slice A 0 c,.string s]] w (D9 base w n0 xs [b]):=by
 obtain⟨i0,hi,hz0,hz1,hz2⟩:=info_parts Dy
 have hown0:=Ba hown (.cells #[.int .i64 2,.int .i32 0,.int .u8 0,.int .u8 0,.int .u8 b,.slice A 0 c,.string s] 34)
 have hb0:base<=(w.alloc (.cells #[.int .i64 2,.int .i32 0,.int .u8 0,.int .u8 0,.int .u8 b,.slice A 0 c,.string s] 34)).heap.size:=by simp;omega
 have kx:=(Kx.refl base w).alloc hbase (.cells #[.int .i64 2,.int .i32 0,.int .u8 0,.int .u8 0,.int .u8 b,.slice A 0 c,.string s] 34)
 go_enter Tryz.func116,Tryz.ntmps116
 go_wp2_with (at_builtin;refine Eh rfl (.tmp 59) (.tmp 62) 30 rfl base 5 i0 _ 1 Tryz.underlying30 hi hz0 hz1 hz2 rfl v n0 xs rfl hown0 _ _ _ rfl (by simp) rfl (by omega) (by omega) hb0 ?_;intro v' w2 hown2 hg2 hm2)
 go_ret
 exact⟨v',rfl,hown2,kx.grown hown0 hg2 hb0⟩
theorem Nt {t:List Int} (h: ∀x∈t,0<=x/\x<256):Lib.strCells (strOfNums t)=u8s t:=by
 rw [Lib.strCells_eq]
 simp only [Lib.byteCells,u8s,strOfNums,List.map_map]
 refine List.map_congr_left fun x hx=>?_
 have:=h x hx
 simp
 omega
theorem mQ (base:Nat) (v:Value) (n0:Nat) (xs:List Value) (A:Option Addr) (c:Nat) (t:List Int) (w:World) (hown:w.ownsRow base 5 1 v n0 xs) (hn0:n0<=1099511000000) (hbase:base<=w.heap.size) (ht: ∀x∈t,0<=x/\x<256) (hl:t.length<=4096):
  Calls Tryz.prog 116 #[v,.agg #[.int .i64 5,.int .i32 0,.int .u8 0,.int .u8 0,.int .u8 0,.slice A 0 c,.string (strOfNums t)]] w (D9 base w n0 xs (27::93::t++ [7])):=by
 obtain⟨i0,hi,hz0,hz1,hz2⟩:=info_parts Dy
 have hsz:=strOfNums_size t
 have hsc:=Nt ht
 have bx:=Box.new w 34 #[.int .i64 5,.int .i32 0,.int .u8 0,.int .u8 0,.int .u8 0,.slice A 0 c,.string (strOfNums t)]
 have hown0:=Ba hown (.cells #[.int .i64 5,.int .i32 0,.int .u8 0,.int .u8 0,.int .u8 0,.slice A 0 c,.string (strOfNums t)] 34)
 have hb0:base<=(w.alloc (.cells #[.int .i64 5,.int .i32 0,.int .u8 0,.int .u8 0,.int .u8 0,.slice A 0 c,.string (strOfNums t)] 34)).heap.size:=by simp;omega
 have kx:=(Kx.refl base w).alloc hbase (.cells #[.int .i64 5,.int .i32 0,.int .u8 0,.int .u8 0,.int .u8 0,.slice A 0 c,.string (strOfNums t)] 34)
 have HSC:=hide hsc
 have HSZ:=hide hsz
 generalize strOfNums t=s at*
 clear hsc hsz ht
 go_enter Tryz.func116,Tryz.ntmps116
 go_wp2_with (at_builtin;first
  | (refine Ei rfl (.tmp 49) (.tmp 50) 30 rfl base 5 i0 _ 1 Tryz.underlying30 hi hz0 hz1 hz2 rfl v n0 xs rfl hown0 #[.int .u8 27,.int .u8 93] _ _ 2 rfl rfl (by simp) (by simp [Value.oneCell']) (by omega) (by omega) hb0 ?_;intro v1 w1 hown1 hg1 hm1;have bx1:=bx.grown hg1 (bx.iQ hown0 (by decide));have kx1:=kx.grown hown0 hg1 hb0;clear bx kx;obtain⟨k0,k1,k2,k3,k4,k5,k6⟩:=Box.seven bx1)
  | (refine Lib.wpList_append_own_string _ rfl (.tmp 52) (.tmp 54) 30 9 rfl base 5 i0 Tryz.underlying30 Tryz.underlying9 hi hz0 hz1 hz2 v1 _ _ rfl hown1 s rfl (by have:=HSZ.out;simp only [maxLen];omega) (by have:=HSZ.out;omega) (Nat.le_trans hbase kx1.size) ?_;intro v2 w2 hown2 hg2 _;have kx2:=kx1.grown hown1 hg2 (Nat.le_trans hbase kx1.size))
  | (refine Eh rfl (.tmp 56) (.tmp 57) 30 rfl base 5 i0 _ 1 Tryz.underlying30 hi hz0 hz1 hz2 rfl v2 _ _ rfl hown2 _ _ _ rfl rfl rfl (by omega) (by have:=HSZ.out;omega) (Nat.le_trans hbase kx2.size) ?_;intro v3 w3 hown3 hg3 _;have kx3:=kx2.grown hown2 hg3 (Nat.le_trans hbase kx2.size)))
 go_ret
 refine⟨v3,rfl,?_,kx3⟩
 rw [HSC.out,HSZ.out] at hown3
 simpa [u8s,Nat.add_assoc,Nat.add_comm,Nat.add_left_comm] using hown3
end Go.Proofs.YtoaabebgmdbjeaaGreatDoor
namespace Go.Proofs.YtoaabebgmdbjeaaGreatDoor
open Go.RowKit
theorem mR (base:Nat) (v:Value) (n0:Nat) (xs:List Value) (p i f:Int) (A:Option Addr) (n c:Nat) (l:List Int) (s:ByteArray) (w:World) (hown:w.ownsRow base 5 1 v n0 xs) (hn0:n0<=1099510000000) (hbase:base<=w.heap.size)
  (hA:Seen w base A n (Br l)) (hn:n<=16) (hl: ∀x∈l, -1<=x/\x<=65535) (ht:Mx base w):
  Calls Tryz.prog 116 #[v,.agg #[.int .i64 4,.int .i32 0,.int .u8 p,.int .u8 i,.int .u8 f,.slice A n c,.string s]] w (D9 base w n0 xs (27::91::PA.Bn p++PA.joined l++PA.Bn i++ [f])):=by
 obtain⟨i0,hi,hz0,hz1,hz2⟩:=info_parts Dy
 generalize hTT:27::91::PA.Bn p++PA.joined l++PA.Bn i++ [f] =TT
 have HTT:=hide hTT
 clear hTT
 have bx:=Box.new w 34 #[.int .i64 4,.int .i32 0,.int .u8 p,.int .u8 i,.int .u8 f,.slice A n c,.string s]
 have hown0:=Ba hown (.cells #[.int .i64 4,.int .i32 0,.int .u8 p,.int .u8 i,.int .u8 f,.slice A n c,.string s] 34)
 have kx0:=(Kx.refl base w).alloc hbase (.cells #[.int .i64 4,.int .i32 0,.int .u8 p,.int .u8 i,.int .u8 f,.slice A n c,.string s] 34)
 have HA:=hide hA
 have HL:=hide hl
 have HT:=hide ht
 clear hA hl ht
 go_enter Tryz.func116,Tryz.ntmps116
 go_wp2_with fail
 generalize hw0:w.alloc (.cells #[.int .i64 4,.int .i32 0,.int .u8 p,.int .u8 i,.int .u8 f,.slice A n c,.string s] 34)=w0 at*
 have hb0:base<=w0.heap.size:=Nat.le_trans hbase kx0.size
 clear hw0
 have R2: ∀w',Kx base w0 w'->w'.cell? ⟨w.heap.size,2,none⟩=some (.int .u8 p):=fun w' h=>(h.box bx (by decide)).cell 2
 have hd:Kx base w0 w0.drew:=(Kx.refl _ _).drew
 have hX:=Lib.hid hd
 have hAl:Kx base w0 ((w0.alloc (.cells #[.int .u8 27,.int .u8 91] 5)).drew):=((Kx.refl base w0).alloc hb0 (.cells #[.int .u8 27,.int .u8 91] 5)).drew
 go_region_held3 (fun w'=>Kx base w0 w')
  (first | with_reducible exact hd | with_reducible exact hAl | with_reducible exact hX.out)
  (first
   | (refine EF (by rfl) (.tmp 29) (.tmp 30) 30 (by rfl) base 5 i0 _ 1 Tryz.underlying30 hi hz0 hz1 hz2 rfl v n0 xs (by rfl) (D5 (Ba hown0 (.cells #[.int .u8 27,.int .u8 91] 5))) (w0.heap.size+1) (some ⟨w0.heap.size,0,none⟩) 2 2 [.int .u8 27,.int .u8 91] (by rfl) (Seen.fresh (t:=5) (cs:= #[.int .u8 27,.int .u8 91]) rfl rfl rfl rfl).drew (by simp [Value.oneCell']) (by omega) (by omega) (by simp;omega) ?_;intro v1 w1 hown1 hg1 hm1;have hX:=Lib.hid (((Kx.refl base w0).alloc hb0 (.cells #[.int .u8 27,.int .u8 91] 5)).drew.grown (D5 (Ba hown0 (.cells #[.int .u8 27,.int .u8 91] 5))) hg1 (by simp;omega)))
   | (go_at_call 154;refine(GL base v1 (n0+2) (xs++ [.int .u8 27,.int .u8 91]) p _ hown1 (by omega) (Nat.le_trans hb0 (Kx.size hX.out))).mono ?_;rintro e w2 ⟨v2,rfl,hown2,hg2,hm2⟩;have hX:=Lib.hid ((Kx.trans hX.out ((Kx.refl base w1).grown hown1 hg2 (Nat.le_trans hb0 (Kx.size hX.out)))))))
 have kx2:Kx base w w2:=kx0.trans hX.out
 have bx2:=hX.out.box bx (by decide)
 have hb2:base<=w2.heap.size:=Nat.le_trans hb0 hX.out.size
 have ZG:w2.ownsRow base 5 1 v2 (n0+(27::91::PA.Bn p).length) (xs++u8s (27::91::PA.Bn p)):=by
  rw [show n0+(27::91::PA.Bn p).length=n0+2+(u8s (PA.Bn p)).length from by simp [u8s];omega]
  simpa [u8s] using hown2
 have hsm:(27::91::PA.Bn p).length<=3:=by unfold PA.Bn;split<;>simp
 have hsi:(PA.Bn i).length<=1:=by unfold PA.Bn;split<;>simp
 have k5:=(Box.seven bx2).2.2.2.2.2.1
 have PP:=hide (Ns base v2 (n0+(27::91::PA.Bn p).length) (xs++u8s (27::91::PA.Bn p)) A n c l w2 ZG (by omega) hb2 (HA.out.below kx2.below) hn HL.out (HT.out.on kx2.below))
 clear R2 hd hAl hX hg1 hm1 hg2 hm2 hown1 hown2 ZG hown0
 generalize hhd:27::91::PA.Bn p=hd0 at*
 go_wp2_with fail
 refine PP.out.mono ?_
 rintro e w3 ⟨v3,rfl,hown3,kx23⟩
 have kx3:Kx base w w3:=kx2.trans kx23
 have bx3:=kx23.box bx2 (by decide)
 have hb3:base<=w3.heap.size:=Nat.le_trans hb2 kx23.size
 have hjl:=IE l
 have hll:l.length=n:=by simpa [Br] using HA.out.1
 clear k5 PP kx23 bx2
 go_wp2_with fail
 have R3: ∀w',Kx base w3 w'->w'.cell? ⟨w.heap.size,3,none⟩=some (.int .u8 i):=fun w' h=>(h.box bx3 (by decide)).cell 3
 have R4: ∀w',Kx base w3 w'->w'.cell? ⟨w.heap.size,4,none⟩=some (.int .u8 f):=fun w' h=>(h.box bx3 (by decide)).cell 4
 have hd:Kx base w3 w3.drew:=(Kx.refl _ _).drew
 have hAl:Kx base w3 ((w3.alloc (.cells #[.int .u8 f] 5)).drew):=((Kx.refl base w3).alloc hb3 _).drew
 have hX:=Lib.hid hd
 have TS:=hd
 generalize hN:n0+hd0.length+(PA.joined l).length=N at*
 generalize hXS:xs++u8s hd0++u8s (PA.joined l)=XS at*
 have HN:=hide hN
 have HXS:=hide hXS
 have hN1:N<=1099510001000:=by omega
 have BF:=Box.new w3 5 #[.int .u8 f]
 have Fin: ∀(v5:Value) (w5:World),w5.ownsRow base 5 1 v5 (N+(u8s (PA.Bn i)).length+1) (XS++u8s (PA.Bn i)++ [.int .u8 f])->Kx base w3 w5->D9 base w n0 xs TT (.returned v5) w5:=by
  intro v5 w5 h5 k5
  rw [<- HTT.out]
  refine⟨v5,rfl,?_,kx3.trans k5⟩
  rw [<- HXS.out, <- HN.out] at h5
  rw [show n0+(hd0++PA.joined l++PA.Bn i++ [f]).length=n0+hd0.length+(PA.joined l).length+(u8s (PA.Bn i)).length+1 from by simp [u8s];omega]
  simpa [u8s] using h5
 clear hN hXS hhd
 go_region_held3 (fun w'=>Kx base w3 w')
  (first | with_reducible exact hd | with_reducible exact hAl | with_reducible exact TS | with_reducible exact hX.out)
  (first
   | (go_at_call 154;refine(GL base v3 N XS i w3.drew hown3 (by omega) hb3).mono ?_;rintro e w4 ⟨v4,rfl,Qz,hg4,hm4⟩;have hX:=Lib.hid ((Kx.refl base w3).grown hown3 (show w3.grownBy w4 v3.ownBlock from⟨hg4.os,hg4.tape,hg4.output,hg4.size,hg4.block⟩) hb3);have hb4:base<=w4.heap.size:=Nat.le_trans hb3 hX.out.size;have TS:=hX.out.alloc hb4 (.cells #[.int .u8 f] 5))
   | (go_at_call 154;refine(GL base v3 N XS i (w3.alloc (.cells #[.int .u8 f] 5)).drew (D5 (Ba hown3 _)) (by omega) (by simp;omega)).mono ?_;rintro e w4 ⟨v4,rfl,Qz,hg4,hm4⟩;have hX:=Lib.hid (hAl.grown (D5 (Ba hown3 _)) hg4 (by simp;omega));have hb4:base<=w4.heap.size:=Nat.le_trans hb3 hX.out.size;have bf4:=BF.drew.grown hg4 (fun e=>by have:=(hown3.lt _ e.symm).2;omega))
   | (refine EF (by rfl) (.tmp 42) (.tmp 45) 30 (by rfl) base 5 i0 _ 1 Tryz.underlying30 hi hz0 hz1 hz2 rfl v4 (N+(u8s (PA.Bn i)).length) (XS++u8s (PA.Bn i)) (by rfl) (Ba Qz (.cells #[.int .u8 f] 5)) (w4.heap.size+1) (some ⟨w4.heap.size,0,none⟩) 1 1 [.int .u8 f] (by rfl) (Seen.fresh (t:=5) (cs:= #[.int .u8 f]) rfl rfl rfl rfl) (by simp [Value.oneCell']) (by omega) (by simp [u8s];omega) (by simp;omega) ?_;intro v5 w5 hown5 hg5 hm5;have hX:=Lib.hid (TS.grown (Ba Qz (.cells #[.int .u8 f] 5)) hg5 (by simp;omega)))
   | (refine EF (by rfl) (.tmp 42) (.tmp 45) 30 (by rfl) base 5 i0 _ 1 Tryz.underlying30 hi hz0 hz1 hz2 rfl v4 (N+(u8s (PA.Bn i)).length) (XS++u8s (PA.Bn i)) (by rfl) Qz (w3.heap.size+1) (some ⟨w3.heap.size,0,none⟩) 1 1 [.int .u8 f] (by rfl) (Seen.Ec bf4 rfl rfl (by omega)) (by simp [Value.oneCell']) (by omega) (by simp [u8s];omega) hb4 ?_;intro v5 w5 hown5 hg5 hm5;have hX:=Lib.hid (hX.out.grown Qz hg5 hb4)))
 all_goals
  go_wp2_with fail
  go_ret
  exact Fin _ _ hown5 hX.out
end Go.Proofs.YtoaabebgmdbjeaaGreatDoor
namespace Go.Proofs.YtoaabebgmdbjeaaGreatDoor
open Go.RowKit
theorem mU (base:Nat) (v:Value) (n0:Nat) (xs:List Value) (i f:Int) (A:Option Addr) (c:Nat) (s:ByteArray) (w:World) (hown:w.ownsRow base 5 1 v n0 xs) (hn0:n0<=1099510000000) (hbase:base<=w.heap.size):
  Calls Tryz.prog 116 #[v,.agg #[.int .i64 3,.int .i32 0,.int .u8 0,.int .u8 i,.int .u8 f,.slice A 0 c,.string s]] w (D9 base w n0 xs (27::PA.Bn i++ [f])):=by
 obtain⟨i0,hi,hz0,hz1,hz2⟩:=info_parts Dy
 generalize hTT:27::PA.Bn i++ [f] =TT
 have HTT:=hide hTT
 clear hTT
 have hsi:(PA.Bn i).length<=1:=by unfold PA.Bn;split<;>simp
 have bx:=Box.new w 34 #[.int .i64 3,.int .i32 0,.int .u8 0,.int .u8 i,.int .u8 f,.slice A 0 c,.string s]
 have hown0:=Ba hown (.cells #[.int .i64 3,.int .i32 0,.int .u8 0,.int .u8 i,.int .u8 f,.slice A 0 c,.string s] 34)
 have kx0:=(Kx.refl base w).alloc hbase (.cells #[.int .i64 3,.int .i32 0,.int .u8 0,.int .u8 i,.int .u8 f,.slice A 0 c,.string s] 34)
 go_enter Tryz.func116,Tryz.ntmps116
 go_wp2_with fail
 generalize hw0:w.alloc (.cells #[.int .i64 3,.int .i32 0,.int .u8 0,.int .u8 i,.int .u8 f,.slice A 0 c,.string s] 34)=w0 at*
 have hb0:base<=w0.heap.size:=Nat.le_trans hbase kx0.size
 clear hw0
 have R3: ∀w',Kx base w0 w'->w'.cell? ⟨w.heap.size,3,none⟩=some (.int .u8 i):=fun w' h=>(h.box bx (by decide)).cell 3
 have R4: ∀w',Kx base w0 w'->w'.cell? ⟨w.heap.size,4,none⟩=some (.int .u8 f):=fun w' h=>(h.box bx (by decide)).cell 4
 have hd:Kx base w0 w0.drew:=(Kx.refl _ _).drew
 have hA1:Kx base w0 ((w0.alloc (.cells #[.int .u8 27] 5)).drew):=((Kx.refl base w0).alloc hb0 _).drew
 have hA2:Kx base w0 ((w0.alloc (.cells #[.int .u8 f] 5)).drew):=((Kx.refl base w0).alloc hb0 _).drew
 have hA3:Kx base w0 (((w0.alloc (.cells #[.int .u8 27] 5)).alloc (.cells #[.int .u8 f] 5)).drew):=(((Kx.refl base w0).alloc hb0 _).alloc (by simp;omega) _).drew
 have hA4:Kx base w0 (((w0.alloc (.cells #[.int .u8 f] 5)).alloc (.cells #[.int .u8 27] 5)).drew):=(((Kx.refl base w0).alloc hb0 _).alloc (by simp;omega) _).drew
 have hX:=Lib.hid hd
 have jT:=hd
 have TS:=hd
 have Fin: ∀(v5:Value) (w5:World),w5.ownsRow base 5 1 v5 (n0+1+(u8s (PA.Bn i)).length+1) (xs++ [.int .u8 27] ++u8s (PA.Bn i)++ [.int .u8 f])->Kx base w0 w5->D9 base w n0 xs TT (.returned v5) w5:=by
  intro v5 w5 h5 k5
  rw [<- HTT.out]
  refine⟨v5,rfl,?_,kx0.trans k5⟩
  rw [show n0+(27::PA.Bn i++ [f]).length=n0+1+(u8s (PA.Bn i)).length+1 from by simp [u8s];omega]
  simpa [u8s] using h5
 go_region_held3 (fun w'=>Kx base w0 w')
  (first | with_reducible exact hd | with_reducible exact hA1 | with_reducible exact hA2 | with_reducible exact hA3 | with_reducible exact hA4 | with_reducible exact jT | with_reducible exact TS | with_reducible exact hX.out)
  (first
   | (refine EF (by rfl) (.tmp 17) (.tmp 18) 30 (by rfl) base 5 i0 _ 1 Tryz.underlying30 hi hz0 hz1 hz2 rfl v n0 xs (by rfl) (D5 (Ba hown0 (.cells #[.int .u8 27] 5))) (w0.heap.size+1) (some ⟨w0.heap.size,0,none⟩) 1 1 [.int .u8 27] (by rfl) (Seen.fresh (t:=5) (cs:= #[.int .u8 27]) rfl rfl rfl rfl).drew (by simp [Value.oneCell']) (by omega) (by omega) (by simp;omega) ?_;intro v1 w1 hown1 hg1 hm1;have hX:=Lib.hid (hA1.grown (D5 (Ba hown0 _)) hg1 (by simp;omega));have hb1:base<=w1.heap.size:=Nat.le_trans hb0 hX.out.size;have jT:=hX.out.alloc hb1 (.cells #[.int .u8 f] 5))
   | (refine EF (by rfl) (.tmp 17) (.tmp 18) 30 (by rfl) base 5 i0 _ 1 Tryz.underlying30 hi hz0 hz1 hz2 rfl v n0 xs (by rfl) (D5 (Ba (Ba hown0 (.cells #[.int .u8 27] 5)) (.cells #[.int .u8 f] 5))) (w0.heap.size+1) (some ⟨w0.heap.size,0,none⟩) 1 1 [.int .u8 27] (by rfl) (Seen.Ec ((Box.new w0 5 #[.int .u8 27]).alloc (.cells #[.int .u8 f] 5)).drew rfl rfl (by omega)) (by simp [Value.oneCell']) (by omega) (by omega) (by simp;omega) ?_;intro v1 w1 hown1 hg1 hm1;have hX:=Lib.hid (hA3.grown (D5 (Ba (Ba hown0 _) _)) hg1 (by simp;omega));have hb1:base<=w1.heap.size:=Nat.le_trans hb0 hX.out.size;have bf1:=(Box.fresh (w:=w0.alloc (.cells #[.int .u8 27] 5)) (t:=5) (cs:= #[.int .u8 f]) (g:=w0.heap.size+1) (by simp)).drew.grown hg1 (fun e=>by have:=(hown0.lt _ e.symm).2;omega))
   | (refine EF (by rfl) (.tmp 17) (.tmp 18) 30 (by rfl) base 5 i0 _ 1 Tryz.underlying30 hi hz0 hz1 hz2 rfl v n0 xs (by rfl) (D5 (Ba (Ba hown0 (.cells #[.int .u8 f] 5)) (.cells #[.int .u8 27] 5))) (w0.heap.size+2) (some ⟨w0.heap.size+1,0,none⟩) 1 1 [.int .u8 27] (by rfl) (Seen.Ec (Box.fresh (w:=w0.alloc (.cells #[.int .u8 f] 5)) (t:=5) (cs:= #[.int .u8 27]) (g:=w0.heap.size+1) (by simp)).drew rfl rfl (by omega)) (by simp [Value.oneCell']) (by omega) (by omega) (by simp;omega) ?_;intro v1 w1 hown1 hg1 hm1;have hX:=Lib.hid (hA4.grown (D5 (Ba (Ba hown0 _) _)) hg1 (by simp;omega));have hb1:base<=w1.heap.size:=Nat.le_trans hb0 hX.out.size;have bf1:=((Box.new w0 5 #[.int .u8 f]).alloc (.cells #[.int .u8 27] 5)).drew.grown hg1 (fun e=>by have:=(hown0.lt _ e.symm).2;omega))
   | (go_at_call 154;refine(GL base v1 (n0+1) (xs++ [.int .u8 27]) i w1 hown1 (by omega) hb1).mono ?_;rintro e w2 ⟨v2,rfl,hown2,hg2,hm2⟩;have hX:=Lib.hid (hX.out.grown hown1 hg2 hb1);have hb2:base<=w2.heap.size:=Nat.le_trans hb0 hX.out.size;have TS:=hX.out.alloc hb2 (.cells #[.int .u8 f] 5);(try(have bf2:=bf1.grown hg2 (fun e=>by
     rcases hm1 with hm | ⟨g,hm,hm'⟩
     ·rw [hm] at e;have:=(hown0.lt _ e.symm).2;omega
     ·rw [hm] at e;injection e with e;simp at hm';omega))))
   | (go_at_call 154;refine(GL base v1 (n0+1) (xs++ [.int .u8 27]) i (w1.alloc (.cells #[.int .u8 f] 5)) (Ba hown1 _) (by omega) (by simp;omega)).mono ?_;rintro e w2 ⟨v2,rfl,hown2,hg2,hm2⟩;have hX:=Lib.hid (jT.grown (Ba hown1 _) hg2 (by simp;omega));have hb2:base<=w2.heap.size:=Nat.le_trans hb0 hX.out.size;have bf2:=(Box.new w1 5 #[.int .u8 f]).grown hg2 (fun e=>by have:=(hown1.lt _ e.symm).2;omega))
   | (refine EF (by rfl) (.tmp 22) (.tmp 25) 30 (by rfl) base 5 i0 _ 1 Tryz.underlying30 hi hz0 hz1 hz2 rfl v2 (n0+1+(u8s (PA.Bn i)).length) (xs++ [.int .u8 27] ++u8s (PA.Bn i)) (by rfl) (Ba hown2 (.cells #[.int .u8 f] 5)) (w2.heap.size+1) (some ⟨w2.heap.size,0,none⟩) 1 1 [.int .u8 f] (by rfl) (Seen.fresh (t:=5) (cs:= #[.int .u8 f]) rfl rfl rfl rfl) (by simp [Value.oneCell']) (by omega) (by simp [u8s];omega) (by simp;omega) ?_;intro v5 w5 hown5 hg5 hm5;have hX:=Lib.hid (TS.grown (Ba hown2 (.cells #[.int .u8 f] 5)) hg5 (by simp;omega)))
   | (refine EF (by rfl) (.tmp 22) (.tmp 25) 30 (by rfl) base 5 i0 _ 1 Tryz.underlying30 hi hz0 hz1 hz2 rfl v2 (n0+1+(u8s (PA.Bn i)).length) (xs++ [.int .u8 27] ++u8s (PA.Bn i)) (by rfl) hown2 w2.heap.size _ 1 1 [.int .u8 f] (by rfl) (Seen.Ec bf2 rfl rfl bf2.lt) (by simp [Value.oneCell']) (by omega) (by simp [u8s];omega) hb2 ?_;intro v5 w5 hown5 hg5 hm5;have hX:=Lib.hid (hX.out.grown hown2 hg5 hb2)))
 all_goals
  go_wp2_with fail
  go_ret
  exact Fin _ _ hown5 hX.out
theorem TU (base:Nat) (v:Value) (n0:Nat) (xs:List Value) (e:PA.Ev) (A:Option Addr) (c:Nat) (w:World) (he:PA.Right e) (hown:w.ownsRow base 5 1 v n0 xs) (hn0:n0<=1099510000000) (hbase:base<=w.heap.size)
  (hA:Seen w base A e.params.length (Br e.params)) (ht:Mx base w):
  Calls Tryz.prog 116 #[v,.agg #[.int .i64 e.kind,.int .i32 e.rune,.int .u8 e.priv,.int .u8 e.inter,.int .u8 e.final,.slice A e.params.length c,.string (strOfNums e.text)]] w (D9 base w n0 xs (PA.bytesOf e)):=by
 rcases he with ⟨r,rfl,h⟩ | ⟨b,rfl,h0,h1,h2,h3,h4⟩ | ⟨i,f,rfl,hi,h0,h1,h⟩ | ⟨p,i,f,ps,rfl,hp,hi,h0,h1,hl,hn,h⟩ | ⟨t,rfl,hl,h⟩
 ·exact mO base v n0 xs r A c _ w hown (by omega) hbase h
 ·exact mP base v n0 xs b A c _ w hown (by omega) hbase
 ·exact mU base v n0 xs i f A c _ w hown (by omega) hbase
 ·exact mR base v n0 xs p i f A ps.length c ps _ w hown (by omega) hbase hA hl hn ht
 ·exact mQ base v n0 xs A c t w hown (by omega) hbase (fun x hx=>by have:=h x hx;omega) hl
theorem Wp {e:PA.Ev} (h:PA.Right e):(PA.bytesOf e).length<=4200:=by
 have s1: ∀i,(PA.Bn i).length<=1:=fun i=>by unfold PA.Bn;split<;>simp
 rcases h with ⟨r,rfl,h⟩ | ⟨b,rfl,h0,h1,h2,h3,h4⟩ | ⟨i,f,rfl,hi,h0,h1,h⟩ | ⟨p,i,f,ps,rfl,hp,hi,h0,h1,hl,hn,h⟩ | ⟨t,rfl,hl,h⟩
 ·have:=Ov (r:=r)
  show(U.en r).length<=_
  omega
 ·show [b].length<=_
  simp
 ·have:=s1 i
  show(27::PA.Bn i++ [f]).length<=_
  simp
  omega
 ·have a:=s1 i
  have b:=s1 p
  have c:=IE ps
  show(27::91::PA.Bn p++PA.joined ps++PA.Bn i++ [f]).length<=_
  simp
  omega
 ·show(27::93::t++ [7]).length<=_
  simp
  omega
end Go.Proofs.YtoaabebgmdbjeaaGreatDoor
namespace Go.Proofs.YtoaabebgmdbjeaaGreatDoor
open Go.RowKit
def Pk (e:PA.Ev):Prop:=0<=e.final/\ ∀x∈e.text,0<=x/\x<256
def printed (es:List PA.Ev):List PA.Ev:=es.filter PA.Bd
theorem Pm (l:List PA.Ev) (e:PA.Ev):printed (l++ [e])=printed l++(if PA.Bd e=true then [e] else []):=by
 unfold printed
 rw [List.filter_append]
 congr 1
 simp [List.filter]
 split<;>simp_all
theorem Po (a b:List PA.Ev):PA.CU (a++b)=PA.CU a++PA.CU b:=by simp [PA.CU]
theorem KR: ∀(es:List PA.Ev),(∀e∈es,PA.Right e)->(PA.CU es).length<=4200*es.length
 | [],_=>by simp [PA.CU]
 | e::es,h=>by
  have h1:=Wp (h e (by simp))
  have h2:=KR es (fun x hx=>h x (by simp [hx]))
  show(PA.bytesOf e++PA.CU es).length<=_
  simp only [List.length_append,List.length_cons]
  omega
theorem Nu (es:List PA.Ev): ∀e∈printed es,PA.Right e:=fun e he=>PA.KJ (List.mem_filter.1 he).2
theorem Q0 (es:List PA.Ev):(PA.CU (printed es)).length<=4200*es.length:=by
 have h1:=KR (printed es) (Nu es)
 have h2:(printed es).length<=es.length:=List.length_filter_le _ _
 have:=Nat.mul_le_mul_left 4200 h2
 omega
theorem Wq (A:Option Addr) (n c:Nat) (M:List (PA.Ev × Value)) (w:World) (hM:Gp w A n M) (hf: ∀p∈M,Pk p.1) (hn:n<=100000) (ht:KO w):
  Calls Tryz.prog 68 #[.slice A n c] w (VG w (PA.CU (printed (M.map (·.1))))):=by
 have HM:=hide hM
 have HF:=hide hf
 have HT:=hide (show Mx w.heap.size w from Lib.tabBelow_of_tabIs ht)
 clear hM hf ht
 go_enter Tryz.func68,Tryz.ntmps68
 go_wp2_with fail
 go_loopw [3,8] (fun o i wr=> ∃k:Nat,k<=n/\i=.int .i64 k/\wr.ownsRow w.heap.size 5 1 o (PA.CU (printed ((M.take k).map (·.1)))).length (u8s (PA.CU (printed ((M.take k).map (·.1)))))/\Below w.heap.size w wr) (fun _ i _=>n-(intOf i).toNat)
 case atStart=>exact⟨0,Nat.zero_le _,rfl,World.ownsRow_nil _ _ _ _,Below.refl _ _⟩
 case round=>
  obtain⟨k,hk,rfl,ho,b0⟩:=hrel
  by_cases hlt:k<n
  ·obtain⟨q,hq⟩: ∃q,M[k]? =some q:=⟨_,List.getElem?_eq_getElem (by rw [HM.out.1];exact hlt)⟩
   obtain⟨gb,rfl,hgb,hcc,Ap,cp,hpu,hps,hle⟩:=HM.out.2 k q hq
   have hfit:=HF.out q (List.mem_of_getElem? hq)
   have hsn:=Pm ((M.take k).map (·.1)) q.1
   rw [show(M.take k).map (·.1)++ [q.1] =(M.take (k+1)).map (·.1) from by rw [List.take_add_one,hq];simp] at hsn
   have hpl:=Q0 ((M.take k).map (·.1))
   rw [List.length_map,List.length_take] at hpl
   generalize printed ((M.take k).map (·.1))=es at hsn ho hpl
   obtain⟨e,u⟩:=q
   simp only [] at hcc hpu hps hle hfit hsn
   subst hpu
   obtain⟨e0,e1,e2,e3,e4,el,et⟩:=e
   simp only [] at hcc hps hle
   have cb: ∀j u,(Fe ⟨e0,e1,e2,e3,e4,el,et⟩ (.slice Ap el.length cp))[j]? =some u->wr.cell? ⟨gb,k*7+j,none⟩=some u:=fun j u hu=>(b0.cell (p:=⟨gb,k*7+j,none⟩) hgb).trans (hcc j u hu)
   have c0:wr.cell? ⟨gb,k*7,none⟩=some (.int .i64 e0):=cb 0 _ rfl
   have c1:wr.cell? ⟨gb,k*7+1,none⟩=some (.int .i32 e1):=cb 1 _ rfl
   have c2:wr.cell? ⟨gb,k*7+2,none⟩=some (.int .u8 e2):=cb 2 _ rfl
   have c3:wr.cell? ⟨gb,k*7+3,none⟩=some (.int .u8 e3):=cb 3 _ rfl
   have c4:wr.cell? ⟨gb,k*7+4,none⟩=some (.int .u8 e4):=cb 4 _ rfl
   have c5:wr.cell? ⟨gb,k*7+5,none⟩=some (.slice Ap el.length cp):=cb 5 _ rfl
   have c6:wr.cell? ⟨gb,k*7+6,none⟩=some (.string (strOfNums et)):=cb 6 _ rfl
   have RI:=hide (fun o=>LM e0 e1 e2 e3 e4 Ap el.length cp el et (wr.alloc o) (((hps.below b0).alloc b0.size _).more (by have:=b0.size;simp;omega)) (by omega) hfit.1 hfit.2)
   have PU:=hide (fun (hr:PA.Bd ⟨e0,e1,e2,e3,e4,el,et⟩=true) (w2:World) (b2:Below w.heap.size w w2) (h2:w2.ownsRow w.heap.size 5 1 u3 (PA.CU es).length (u8s (PA.CU es)))=>(show Calls Tryz.prog 116 #[u3,.agg #[.int .i64 e0,.int .i32 e1,.int .u8 e2,.int .u8 e3,.int .u8 e4,.slice Ap el.length cp,.string (strOfNums et)]] w2 (D9 w.heap.size w2 (PA.CU es).length (u8s (PA.CU es)) (PA.bytesOf ⟨e0,e1,e2,e3,e4,el,et⟩)) from TU w.heap.size u3 _ _ ⟨e0,e1,e2,e3,e4,el,et⟩ Ap cp w2 (PA.KJ hr) h2 (by omega) b2.size (hps.below b2) (HT.out.on b2)))
   have HSN:=hide hsn
   have HO:=hide ho
   have HB:=hide b0
   clear hcc cb hq hps hle hfit hsn ho b0 hpl
   generalize hbs:PA.bytesOf ⟨e0,e1,e2,e3,e4,el,et⟩=bs at*
   generalize hev:(⟨e0,e1,e2,e3,e4,el,et⟩:PA.Ev)=ev at*
   have HBS:=hide hbs
   clear hev hbs
   generalize hR:PA.Bd ev=R at*
   clear hR
   have hbx:=Box.new wr 34 #[.int .i64 e0,.int .i32 e1,.int .u8 e2,.int .u8 e3,.int .u8 e4,.slice Ap el.length cp,.string (strOfNums et)]
   rcases R with _ | _
   ·go_wp2_with fail
    refine(RI.out _).mono ?_
    rintro x w1 ⟨rfl,b1⟩
    have bb:Below wr.heap.size wr w1:=((Below.refl _ wr).alloc (Nat.le_refl _) _).trans (b1.mono (by simp))
    clear b1 hbx
    go_wp2_with fail
    go_roundw
    case rel=>exact⟨k+1,by omega,by go_num,by rw [HSN.out];simpa using own_below HO.out bb,HB.out.trans (bb.mono HB.out.size)⟩
    case measure=>simp [intOf];omega
   ·go_wp2_with fail
    refine(RI.out _).mono ?_
    rintro x w1 ⟨rfl,b1⟩
    have bb:Below wr.heap.size wr w1:=((Below.refl _ wr).alloc (Nat.le_refl _) _).trans (b1.mono (by simp))
    obtain⟨k0,k1,k2,k3,k4,k5,k6⟩:=Box.seven (hbx.below b1 (by simp))
    have b2:Below w.heap.size w w1:=HB.out.trans (bb.mono HB.out.size)
    have P2:=hide (PU.out (by trivial) w1 b2 (own_below HO.out bb))
    have B2:=hide b2
    clear b1 hbx bb b2
    go_wp2_with fail
    refine P2.out.mono ?_
    rintro x w2 ⟨v2,rfl,h2,kx2⟩
    have B3:=hide (B2.out.trans kx2.below)
    clear kx2
    go_wp2_with fail
    go_roundw
    case rel=>exact⟨k+1,by omega,by go_num,by rw [HSN.out,if_pos (by trivial),Po];simpa [PA.CU,u8s,HBS.out] using h2,B3.out⟩
    case measure=>simp [intOf];omega
  ·obtain rfl:k=n:=by omega
   rw [List.take_of_length_le (by rw [HM.out.1];omega)] at ho
   go_wp2_with fail
   go_ret
   exact⟨u3,rfl,ho,b0⟩
end Go.Proofs.YtoaabebgmdbjeaaGreatDoor
namespace Go.Proofs.YtoaabebgmdbjeaaGreatDoor
open Go.RowKit
def Q5 (w:World) (p:PA.Ev × Value):Prop:= ∃Ap cp,p.2=.slice Ap p.1.params.length cp/\Seen w w.heap.size Ap p.1.params.length (Br p.1.params)/\p.1.params.length<=1024
theorem Q5.below {w w':World} {p:PA.Ev × Value} (h:Q5 w p) (b:Below w.heap.size w w'):Q5 w' p:=by
 obtain⟨Ap,cp,h1,h2,h3⟩:=h
 exact⟨Ap,cp,h1,(h2.below b).more b.size,h3⟩
theorem Q6 {w:World} {g:Nat} {M:List (PA.Ev × Value)} {cs:Array Value} {n:Nat} (hb:Box w g 34 cs) (hc:cs.toList=Fg M) (hn:M.length=n) (hp: ∀p∈M,Q5 w p):Gp w (some ⟨g,0,none⟩) n M:=by
 refine⟨hn,fun k p hk=>⟨g,rfl,hb.lt,fun j u hu=>?_,hp p (List.mem_of_getElem? hk)⟩⟩
 rw [hb.cell, <- Array.getElem?_toList,hc]
 exact JJ M k j p u hk hu
def iM (w:World) (n:Nat) (xs:List Value) (e:Ending) (w':World):Prop:= ∃(A:Option Addr) (c:Nat),e=.returned (.slice A n c)/\n<=c/\Seen w' w'.heap.size A n xs/\Below w.heap.size w w'
theorem ZH {A:Option Addr} {n c:Nat} {M:List (PA.Ev × Value)} {w:World} (es:List PA.Ev) (bs:List Int) (m:Nat) (hb:PA.CU (printed es)=bs) (hm:bs.length=m) (he:M.map (·.1)=es) (hM:Gp w A n M) (hf: ∀p∈M,Pk p.1) (hn:n<=100000) (ht:KO w):
  Calls Tryz.prog 68 #[.slice A n c] w (iM w m (u8s bs)):=by
 subst hb he hm
 refine(Wq A n c M w hM hf hn ht).mono ?_
 rintro e w' ⟨v,he,h1,h2⟩
 obtain⟨A,c,rfl,hc,_⟩:=Da h1
 exact⟨A,c,he,hc,Seen.CY h1,h2⟩
theorem ZI {e:PA.Ev} {u:Value} (h:Pk e): ∀p∈ [(e,u)],Pk p.1:=by simpa using h
theorem dU {w:World} {e:PA.Ev} {A:Option Addr} {n c:Nat} (hn:e.params.length=n) (h:Seen w w.heap.size A n (Br e.params)) (hle:n<=1024): ∀p∈ [(e,Value.slice A n c)],Q5 w p:=by
 subst hn
 intro p hp
 simp only [List.mem_singleton] at hp
 subst hp
 exact⟨A,c,rfl,h,hle⟩
end Go.Proofs.YtoaabebgmdbjeaaGreatDoor
