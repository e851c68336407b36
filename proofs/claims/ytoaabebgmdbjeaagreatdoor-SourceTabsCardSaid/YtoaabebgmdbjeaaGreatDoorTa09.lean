/- A part of the proof: CharsetTab, RefPen10, CellPack, PenFun, UtfSmall, ParseTab, ParseMove. -/
import Derived.Test.YtoaabebgmdbjeaaGreatDoorTa08
set_option maxRecDepth 100000
set_option maxHeartbeats 16000000
set_option linter.unusedVariables false
namespace Go.Proofs.YtoaabebgmdbjeaaGreatDoor
open Go.RowKit
def Je:Array Value:= #[.int .i32 9670,.int .u8 42,.int .i32 9618,.int .u8 35,.int .i32 9225,.int .u8 72,.int .i32 9228,.int .u8 70,.int .i32 9229,.int .u8 67,.int .i32 9226,.int .u8 76,.int .i32 176,.int .u8 111,.int .i32 177,.int .u8 43,.int .i32 9252,.int .u8 78,.int .i32 9227,.int .u8 86,.int .i32 9496,.int .u8 43,.int .i32 9488,.int .u8 43,.int .i32 9484,.int .u8 43,.int .i32 9492,.int .u8 43,.int .i32 9532,.int .u8 43,.int .i32 9146,.int .u8 45,.int .i32 9147,.int .u8 45,.int .i32 9472,.int .u8 45,.int .i32 9148,.int .u8 45,.int .i32 9149,.int .u8 95,.int .i32 9500,.int .u8 43,.int .i32 9508,.int .u8 43,.int .i32 9524,.int .u8 43,.int .i32 9516,.int .u8 43,.int .i32 9474,.int .u8 124,.int .i32 8804,.int .u8 60,.int .i32 8805,.int .u8 62,.int .i32 960,.int .u8 112,.int .i32 8800,.int .u8 33,.int .i32 163,.int .u8 76,.int .i32 183,.int .u8 46]
def Fw (w:World):Prop:= ∃t,w.heap[1]? =some (.cells Je t (0,0))
theorem Fw.lt {w:World} (h:Fw w):1<w.heap.size:=by
 obtain⟨t,h⟩:=h
 exact(Array.getElem?_eq_some_iff.1 h).1
theorem Fw.below {w w':World} {B:Nat} (h:Fw w) (hb:Below B w w') (hB:1<B):Fw w':=by
 obtain⟨t,h⟩:=h
 exact⟨t,(hb.block _ hB).trans h⟩
theorem Fw.keep {w w':World} (h:Fw w) (hb:Below w.heap.size w w'):Fw w':=h.below hb h.lt
theorem bJ:Tryz.prog.globalNamed "linguist/charset.signs" =some 1:=by kernel_rfl
theorem bK:(Tryz.prog.globals[1]?).map (·.type)=some 161:=by kernel_rfl
theorem QX:tiled Tryz.prog 4 161=true:=by kernel_rfl
theorem Tv:flat (H:=Unit) Rows.laid_linguist_charset_signs=some Je.toList:=by rfl
theorem QY {w:World} {l:List (String × DataW Unit)} (h:laidMet Tryz.prog l w) (hm:("linguist/charset.signs",Rows.laid_linguist_charset_signs)∈l):Fw w:=by
 obtain⟨t,ht⟩:=Cr 4 bJ bK QX Tv (by simp [Je]) h hm
 exact⟨t,by simpa using ht⟩
theorem OV {w:World} (h:Fw w) (k:Nat) (hk:k<31):w.cell? ⟨1,k*2,none⟩=some (.int .i32 (CH.KG k)):=by
 obtain⟨t,h⟩:=h
 rw [cell_of_row w _ (k*2) _ t (0,0) h]
 obtain rfl | rfl | rfl | rfl | rfl | rfl | rfl | rfl | rfl | rfl | rfl | rfl | rfl | rfl | rfl | rfl | rfl | rfl | rfl | rfl | rfl | rfl | rfl | rfl | rfl | rfl | rfl | rfl | rfl | rfl | rfl:k=0\/k=1\/k=2\/k=3\/k=4\/k=5\/k=6\/k=7\/k=8\/k=9\/k=10\/k=11\/k=12\/k=13\/k=14\/k=15\/k=16\/k=17\/k=18\/k=19\/k=20\/k=21\/k=22\/k=23\/k=24\/k=25\/k=26\/k=27\/k=28\/k=29\/k=30:=by omega
 all_goals rfl
theorem LY {k:Nat} (h:k<31):CH.draw (96+(k:Int))=CH.KG k:=by
 unfold CH.draw
 rw [if_neg (by omega),if_pos (by omega)]
 congr 1
 omega
theorem IL {b:Int} (h:b<95\/126<b):CH.draw b=b:=by
 unfold CH.draw
 rw [if_neg (by omega),if_neg (by omega)]
theorem Wv (b:Int) (w:World) (h0:0<=b) (h1:b<256) (hs:Fw w):Calls Tryz.prog 108 #[.int .u8 b] w fun e w'=>e=.returned (.int .i32 (CH.draw b))/\Below w.heap.size w w':=by
 have cs:b=95\/(96<=b/\b<=126)\/b<95\/126<b:=by omega
 rcases cs with rfl | h | h | h
 ·go_enter Tryz.func108,Tryz.ntmps108
  go_wp2
  go_ret
  exact⟨rfl,Below.refl _ _⟩
 ·have hk:(b-96).toNat<31:=by omega
  have hc:=OV hs (b-96).toNat hk
  have e:=LY hk
  rw [show(96:Int)+((b-96).toNat:Int)=b from by omega] at e
  have E:=hide e
  clear hs e hk
  generalize CH.KG (b-96).toNat=x at hc E
  have hb:(b==95)=false:=by simp;omega
  go_enter Tryz.func108,Tryz.ntmps108
  go_wp2
  go_ret
  exact⟨Br E.out.symm,Below.refl _ _⟩
 ·have E:=hide (IL (b:=b) (by omega))
  have hb:(b==95)=false:=by simp;omega
  go_enter Tryz.func108,Tryz.ntmps108
  go_wp2
  go_ret
  exact⟨Br E.out.symm,Below.refl _ _⟩
 ·have E:=hide (IL (b:=b) (by omega))
  have hb:(b==95)=false:=by simp;omega
  have hb':96<=b:=by omega
  go_enter Tryz.func108,Tryz.ntmps108
  go_wp2
  go_ret
  exact⟨Br E.out.symm,Below.refl _ _⟩
end Go.Proofs.YtoaabebgmdbjeaaGreatDoor
namespace Go.Proofs.YtoaabebgmdbjeaaGreatDoor
open Go.RowKit
def Kz (l:List Int) (i:Nat):Int:=((PS.pos (l.getD i 0):Nat):Int)
theorem K3 {l:List Int} (h:l.length<2):PS.wide l=(none,l.length):=by
 rcases l with _ | ⟨a,_ | ⟨b,l⟩⟩
 ·rfl
 ·rfl
 ·simp only [List.length_cons] at h
  omega
theorem Tw {l:List Int} {x:Int} (h:2<=l.length) (h5:l[0]? =some 5) (hx:Kz l 1=x) (h2:255<x):PS.wide l=(none,2):=by
 rcases l with _ | ⟨a,_ | ⟨b,l⟩⟩
 ·simp at h
 ·simp at h
 ·have ha:a=5:=by simpa using h5
  have hb:(PS.pos b:Int)=x:=hx
  subst ha
  rcases l with _ | ⟨c,_ | ⟨d,l⟩⟩
  ·show(if (5:Int)=5/\PS.pos b<=255 then some ((PS.pos b:Nat):Int) else none,2)=_
   rw [if_neg (by omega)]
  ·show(if (5:Int)=5 then (if PS.pos b<=255 then some ((PS.pos b:Nat):Int) else none,2) else (none,3))=_
   rw [if_pos rfl,if_neg (by omega)]
  ·rw [PS.Hz,if_pos rfl,if_neg (by omega)]
theorem OW {l:List Int} {x:Int} (h:2<=l.length) (h5:l[0]? =some 5) (hx:Kz l 1=x) (h2:x<=255):PS.wide l=(some x,2):=by
 rcases l with _ | ⟨a,_ | ⟨b,l⟩⟩
 ·simp at h
 ·simp at h
 ·have ha:a=5:=by simpa using h5
  have hb:(PS.pos b:Int)=x:=hx
  subst ha
  rw [PS.TY b (by omega),hb]
theorem QZ {l:List Int} {x:Int} (h:2<=l.length) (h0:l[0]? =some x) (h5:x≠5) (h2:l.length<4\/x≠2):PS.wide l=(none,l.length):=by
 rcases l with _ | ⟨a,_ | ⟨b,_ | ⟨c,_ | ⟨d,l⟩⟩⟩⟩
 ·simp at h
 ·simp at h
 ·have ha:a=x:=by simpa using h0
  show(if a=5/\PS.pos b<=255 then some ((PS.pos b:Nat):Int) else none,2)=_
  rw [if_neg (by omega)]
  rfl
 ·have ha:a=x:=by simpa using h0
  show(if a=5 then (if PS.pos b<=255 then some ((PS.pos b:Nat):Int) else none,2) else (none,3))=_
  rw [if_neg (by omega)]
  rfl
 ·have ha:a=x:=by simpa using h0
  have:a≠2:=by
   rcases h2 with h2 | h2
   ·simp only [List.length_cons] at h2
    omega
   ·omega
  rw [PS.Hz,if_neg (by omega),if_neg this]
  rfl
theorem Ww {l:List Int} {r g b:Int} (h:4<=l.length) (h0:l[0]? =some 2) (hr:Kz l 1=r) (hg:Kz l 2=g) (hb:Kz l 3=b):PS.wide l=(if r<=255/\g<=255/\b<=255 then some (16777216+r*65536+g*256+b) else none,4):=by
 rcases l with _ | ⟨a,_ | ⟨x,_ | ⟨y,_ | ⟨z,l⟩⟩⟩⟩
 ·simp at h
 ·simp at h
 ·simp at h
 ·simp at h
 ·have ha:a=2:=by simpa using h0
  have e1:(PS.pos x:Int)=r:=hr
  have e2:(PS.pos y:Int)=g:=hg
  have e3:(PS.pos z:Int)=b:=hb
  subst ha
  rw [PS.Hz,if_neg (by decide),if_pos rfl,e1,e2,e3]
  by_cases hc:r<=255/\g<=255/\b<=255
  ·rw [if_pos hc,if_pos (by omega)]
  ·rw [if_neg hc,if_neg (by omega)]
end Go.Proofs.YtoaabebgmdbjeaaGreatDoor
namespace Go.Proofs.YtoaabebgmdbjeaaGreatDoor
open Go.RowKit
theorem gF {v u:Value} (h:v=u):Ending.returned v=.returned u:=by rw [h]
theorem Wx (f b g:Int) (A:Option Addr) (n c:Nat) (l:List Int) (w:World) (hA:Seen w w.heap.size A n (l.map (Value.int .i64))) (hn:n<=1099511627776):
  Calls Tryz.prog 227 #[.agg #[.int .i64 f,.int .i64 b,.int .i64 g],.slice A n c] w fun e w'=>e=.returned (.agg #[.int .i64 f,.int .i64 b,.int .i64 (C.ors g l)])/\Below w.heap.size w w':=by
 have hlen:l.length=n:=by simpa using hA.1
 have HA:=hide hA
 have HL:=hide hlen
 clear hA hlen
 go_enter Tryz.func227,Tryz.ntmps227
 go_wp2
 go_loopw [9] (fun i wr=> ∃k:Nat,k<=n/\i=.int .i64 k/\Box wr w.heap.size 38 #[.int .i64 f,.int .i64 b,.int .i64 (C.ors g (l.take k))] /\Box wr (w.heap.size+1) 38 #[.int .i64 0,.int .i64 0,.int .i64 0] /\Below w.heap.size w wr)
  (fun i _=>n-(intOf i).toNat)
 case atStart=>exact⟨0,Nat.zero_le _,rfl,(Box.new w _ _).alloc _,by have h:=Box.new (w.alloc (.cells #[.int .i64 f,.int .i64 b,.int .i64 g] 38)) 38 #[.int .i64 0,.int .i64 0,.int .i64 0];rw [World.size_alloc] at h;exact h,((Below.refl _ _).alloc (Nat.le_refl _) _).alloc (by simp) _⟩
 case round=>
  obtain⟨k,hk,rfl,hb,hr,hbel⟩:=hrel
  by_cases hlt:k<n
  ·obtain⟨ad,u,rfl,_,hu,hc⟩:=(HA.out.below hbel).at_ hlt
   rw [List.getElem?_map] at hu
   obtain⟨x,hx,rfl⟩:=Option.map_eq_some_iff.1 hu
   have ho:=C.VU g (l.take k) x
   rw [show l.take k++ [x] =l.take (k+1) from by rw [List.take_add_one,hx];rfl] at ho
   have HO:=hide ho
   clear hu hx ho
   generalize C.ors g (l.take k)=z at hb HO
   obtain⟨k0,k1,k2,k3,k4,k5⟩:=hb.three
   go_wp2
   go_roundw
   case rel=>
    refine⟨k+1,by omega,by go_num,?_,Box.far hr (by simp) _,hbel.setCell (Nat.le_refl _) _⟩
    rw [HO.out]
    exact hb.set 2 _
   case measure=>simp [intOf];omega
  ·obtain rfl:k=n:=by omega
   rw [List.take_of_length_le (by rw [HL.out];omega)] at hb
   generalize hz:C.ors g l=z at hb
   have HZ:=hide hz
   clear hz
   obtain⟨k0,k1,k2,k3,k4,k5⟩:=hb.three
   obtain⟨j0,j1,j2,j3,j4,j5⟩:=hr.three
   go_wp2
   refine bodyPost_ret (v:=.agg #[.int .i64 f,.int .i64 b,.int .i64 z]) (by simp [results,Tryz.results227,go_sem,j0,j1,j2]) rfl ⟨gF (by rw [HZ.out]),?_⟩
   repeat(first | exact hbel | refine Below.setCell ?_ (by first | omega | (simp;done) | (simp;omega)) _)
end Go.Proofs.YtoaabebgmdbjeaaGreatDoor
namespace Go.Proofs.YtoaabebgmdbjeaaGreatDoor
open Go.RowKit
def Jf:Array Value:= #[.int .i64 0,.int .i64 1,.int .i64 2,.int .i64 4,.int .i64 8,.int .i64 16,.int .i64 0,.int .i64 32,.int .i64 64,.int .i64 128]
def Cv (w:World):Prop:= ∃t,w.heap[6]? =some (.cells Jf t (0,0))
theorem Cv.lt {w:World} (h:Cv w):6<w.heap.size:=by
 obtain⟨t,h⟩:=h
 exact(Array.getElem?_eq_some_iff.1 h).1
theorem Cv.keep {w w':World} (h:Cv w) (hb:Below w.heap.size w w'):Cv w':=by
 have hl:=h.lt
 obtain⟨t,h⟩:=h
 exact⟨t,(hb.block _ hl).trans h⟩
theorem Cv.kept {w w':World} {B:Nat} (h:Cv w) (hb:Below B w w') (hB:6<B):Cv w':=by
 obtain⟨t,h⟩:=h
 exact⟨t,(hb.block _ hB).trans h⟩
theorem Cv.alloc {w:World} (h:Cv w) (o:Obj):Cv (w.alloc o):=h.keep ((Below.refl _ _).alloc (Nat.le_refl _) o)
theorem bL:Tryz.prog.globalNamed "linguist/pen.flags" =some 6:=by kernel_rfl
theorem bM:(Tryz.prog.globals[6]?).map (·.type)=some 218:=by kernel_rfl
theorem Qa:tiled Tryz.prog 4 218=true:=by kernel_rfl
theorem Tx:flat (H:=Unit) Rows.laid_linguist_pen_flags=some Jf.toList:=by rfl
theorem Qb {w:World} {l:List (String × DataW Unit)} (h:laidMet Tryz.prog l w) (hm:("linguist/pen.flags",Rows.laid_linguist_pen_flags)∈l):Cv w:=by
 obtain⟨t,ht⟩:=Cr 4 bL bM Qa Tx (by simp [Jf]) h hm
 exact⟨t,by simpa using ht⟩
theorem OX {w:World} (h:Cv w) (k:Nat) (hk:k<10):w.cell? ⟨6,k,none⟩=some (.int .i64 (PS.F4 k:Nat)):=by
 obtain⟨t,h⟩:=h
 rw [cell_of_row w _ k _ t (0,0) h]
 obtain rfl | rfl | rfl | rfl | rfl | rfl | rfl | rfl | rfl | rfl:k=0\/k=1\/k=2\/k=3\/k=4\/k=5\/k=6\/k=7\/k=8\/k=9:=by omega
 all_goals rfl
theorem Co (x:Int) (n:Nat) (hn:PS.pos x=n) (h0: -1<=x) (w:World):Calls Tryz.prog 216 #[.int .i64 x] w fun e w'=>e=.returned (.int .i64 (n:Nat))/\w=w':=by
 unfold PS.pos at hn
 by_cases h:x= -1
 ·subst h
  obtain rfl:n=0:=by omega
  clear hn
  go_enter Tryz.func216,Tryz.ntmps216
  go_wp2
  go_ret
  exact⟨rfl,rfl⟩
 ·have q:(x== -1)=false:=by simp;omega
  obtain rfl:x=(n:Int):=by omega
  clear hn h h0
  go_enter Tryz.func216,Tryz.ntmps216
  go_wp2
  go_ret
  exact⟨rfl,rfl⟩
theorem Cx (n:Nat) (b:Bool) (hb:decide (n<=255)=b) (hn:n<=9223372036854775807) (w:World):Calls Tryz.prog 226 #[.int .i64 (n:Nat)] w fun e w'=>e=.returned (.bool b)/\w=w':=by
 have e1:IntKind.u8.wrap (n:Int)=((n%256:Nat):Int):=by rw [IntKind.wrap_u8];omega
 have e2:IntKind.i64.wrap ((n%256:Nat):Int)=((n%256:Nat):Int):=IntWalk.i64_in _ (by omega)
 have e3:(((n%256:Nat):Int)==(n:Int))=b:=by
  rw [<- hb,Bool.eq_iff_iff]
  simp
  omega
 have E1:=hide e1
 have E2:=hide e2
 have E3:=hide e3
 clear e1 e2 e3 hb
 go_enter Tryz.func226,Tryz.ntmps226
 go_wp2_with (simp only [E1.out,E2.out])
 go_ret
 exact⟨VR (by first | exact E3.out | (rw [E1.out];exact E3.out) | (rw [E1.out,E2.out];exact E3.out)),rfl⟩
def Qc (c:Int) (n s:Nat):Int:=if s<=n/\n<s+8 then (n:Int)-s else if n=s+9 then-1 else if s+60<=n/\n<s+68 then (n:Int)-s-52 else c
theorem K4 (c:Int) (n s:Nat) (hs:s=30\/s=40) (hn:n<=9223372036854775807) (z:Int) (hz:Qc c n s=z) (w:World):Calls Tryz.prog 229 #[.int .i64 c,.int .i64 (n:Nat),.int .i64 (s:Nat)] w fun e w'=>e=.returned (.int .i64 z)/\w=w':=by
 subst hz
 unfold Qc
 have cs:n<s\/(s<=n/\n<s+8)\/n=s+8\/n=s+9\/(s+10<=n/\n<s+60)\/(s+60<=n/\n<s+68)\/s+68<=n:=by omega
 rcases cs with h | h | h | h | h | h | h
 ·rw [if_neg (by omega),if_neg (by omega),if_neg (by omega)]
  have q:((n:Int)==(s:Int)+9)=false:=by simp;omega
  rcases hs with rfl | rfl
  all_goals
   go_enter Tryz.func229,Tryz.ntmps229
   go_wp2
   go_ret
   exact⟨rfl,rfl⟩
 ·rw [if_pos (by omega)]
  rcases hs with rfl | rfl
  all_goals
   go_enter Tryz.func229,Tryz.ntmps229
   go_wp2
   go_ret
   exact⟨Br (by omega),rfl⟩
 ·rw [if_neg (by omega),if_neg (by omega),if_neg (by omega)]
  subst h
  rcases hs with rfl | rfl
  all_goals
   go_enter Tryz.func229,Tryz.ntmps229
   go_wp2
   go_ret
   exact⟨rfl,rfl⟩
 ·rw [if_neg (by omega),if_pos (by omega)]
  subst h
  rcases hs with rfl | rfl
  all_goals
   go_enter Tryz.func229,Tryz.ntmps229
   go_wp2
   go_ret
   exact⟨rfl,rfl⟩
 ·rw [if_neg (by omega),if_neg (by omega),if_neg (by omega)]
  have q:((n:Int)==(s:Int)+9)=false:=by simp;omega
  rcases hs with rfl | rfl
  all_goals
   go_enter Tryz.func229,Tryz.ntmps229
   go_wp2
   go_ret
   exact⟨rfl,rfl⟩
 ·rw [if_neg (by omega),if_neg (by omega),if_pos (by omega)]
  have q:((n:Int)==(s:Int)+9)=false:=by simp;omega
  rcases hs with rfl | rfl
  all_goals
   go_enter Tryz.func229,Tryz.ntmps229
   go_wp2
   go_ret
   exact⟨Br (by omega),rfl⟩
 ·rw [if_neg (by omega),if_neg (by omega),if_neg (by omega)]
  have q:((n:Int)==(s:Int)+9)=false:=by simp;omega
  rcases hs with rfl | rfl
  all_goals
   go_enter Tryz.func229,Tryz.ntmps229
   go_wp2
   go_ret
   exact⟨rfl,rfl⟩
def tak (n:Nat):Nat:=if n=22 then 3 else PS.F4 (n-20)
theorem bN (n:Nat):tak n<256:=by
 unfold tak
 split
 ·omega
 ·exact PS.M4 _
theorem Qd (n z:Nat) (hz:tak n=z) (h0:22<=n) (h1:n<=29) (w:World) (hF:Cv w):Calls Tryz.prog 228 #[.int .i64 (n:Nat)] w fun e w'=>e=.returned (.int .i64 (z:Nat))/\w=w':=by
 subst hz
 unfold tak
 by_cases h:n=22
 ·subst h
  rw [if_pos rfl]
  go_enter Tryz.func228,Tryz.ntmps228
  go_wp2
  go_ret
  exact⟨rfl,rfl⟩
 ·rw [if_neg h]
  obtain⟨k,rfl⟩: ∃k,n=k+20:=⟨n-20,by omega⟩
  rw [show k+20-20=k by omega]
  have hc:=OX hF k (by omega)
  have q:(((k+20:Nat):Int)==22)=false:=by simp;omega
  have e:((k+20:Nat):Int)-20=(k:Int):=by omega
  generalize PS.F4 k=f at hc
  go_enter Tryz.func228,Tryz.ntmps228
  go_wp2_with (simp only [e])
  go_ret
  exact⟨rfl,rfl⟩
end Go.Proofs.YtoaabebgmdbjeaaGreatDoor
namespace Go.Proofs.YtoaabebgmdbjeaaGreatDoor
open Go.RowKit
theorem Rp {k:IntKind} {a b:Int} (h:a=b):Ending.returned (.int k a)=.returned (.int k b):=by rw [h]
theorem Wy {a b:Bool} (h:a=b):Ending.returned (.bool a)=.returned (.bool b):=by rw [h]
theorem Qe (n:Int) (w:World):Calls Tryz.prog 204 #[.int .i64 n] w fun e w'=>e=.returned (.bool (U.isR n))/\w=w':=by
 have cs:n<0\/1114111<n\/(0<=n/\n<55296)\/(55296<=n/\n<=57343)\/(57343<n/\n<=1114111):=by omega
 have hr: ∀b:Bool,(b=true<->(0<=n/\n<=1114111/\(n<55296\/57343<n)))->Ending.returned (.bool b)=.returned (.bool (U.isR n)):=fun b hb=>Wy (by unfold U.isR;rw [Bool.eq_iff_iff,hb,decide_eq_true_iff])
 have HR:=Lib.hid hr
 clear hr
 rcases cs with h | h | h | h | h
 all_goals
  go_enter Tryz.func204,Tryz.ntmps204
  go_wp2
  go_ret
  exact⟨HR.out _ (by simp;omega),rfl⟩
theorem Wz (r:Int) (w:World):Calls Tryz.prog 205 #[.int .i32 r] w fun e w'=>e=.returned (.int .i64 (U.sz r))/\w=w':=by
 have hr: ∀k:Int,U.sz r=k->Ending.returned (.int .i64 k)=.returned (.int .i64 (U.sz r)):=fun k hb=>Rp hb.symm
 have HR:=Lib.hid hr
 clear hr
 have cs:r<128\/(128<=r/\r<2048)\/(2048<=r/\r<65536)\/65536<=r:=by omega
 rcases cs with h | h | h | h
 all_goals
  go_enter Tryz.func205,Tryz.ntmps205
  go_wp2
  go_ret
  exact⟨HR.out _ (by unfold U.sz;repeat(first | rw [if_pos (by omega)] | rw [if_neg (by omega)])),rfl⟩
theorem G9 (s:U.St) (w:World):Calls Tryz.prog 139 #[s.val] w fun e w'=>e=.returned (.bool (decide (0<s.need)))/\w.alloc (.cells #[.int .i64 s.need,.int .i64 s.have_,.int .i64 s.acc] 95)=w':=by
 unfold U.St.val
 go_enter Tryz.func139,Tryz.ntmps139
 go_wp2
 go_ret
 exact⟨rfl,rfl⟩
theorem Tz (need acc:Int) (h0:0<=acc) (h1:acc<2147483648) (w:World):Calls Tryz.prog 221 #[.int .i64 need,.int .i64 acc] w fun e w'=>e=.returned (.int .i32 (U.wh need acc))/\w=w':=by
 have hr: ∀k:Int,U.wh need acc=k->Ending.returned (.int .i32 k)=.returned (.int .i32 (U.wh need acc)):=fun k hb=>Rp hb.symm
 have HR:=Lib.hid hr
 clear hr
 have ci:=Qe acc
 have cz:=Wz acc
 rcases hi:U.isR acc with _ | _
 ·have HW:Hid (U.wh need acc=65533):=by simp [Hid,U.wh,hi]
  rw [hi] at ci
  clear hi
  have CI:=Lib.hid ci
  clear ci cz
  go_enter Tryz.func221,Tryz.ntmps221
  go_wp2_with (go_at_call 204;refine(CI.out _).mono ?_;rintro e w' ⟨rfl,rfl⟩)
  go_ret
  exact⟨HR.out _ HW.out,rfl⟩
 ·by_cases hz:U.sz acc=need
  ·have HW:Hid (U.wh need acc=acc):=by simp [Hid,U.wh,hi,hz]
   rw [hi] at ci
   rw [hz] at cz
   clear hi hz
   have CI:=Lib.hid ci
   have CZ:=Lib.hid cz
   clear ci cz
   go_enter Tryz.func221,Tryz.ntmps221
   go_wp2_with (first | (go_at_call 204;refine(CI.out _).mono ?_;rintro e w' ⟨rfl,rfl⟩) | (go_at_call 205;refine(CZ.out _).mono ?_;rintro e w' ⟨rfl,rfl⟩))
   go_ret
   exact⟨HR.out _ HW.out,rfl⟩
  ·have HW:Hid (U.wh need acc=65533):=by simp [Hid,U.wh,hz]
   rw [hi] at ci
   generalize U.sz acc=q at cz hz
   clear hi
   have CI:=Lib.hid ci
   have CZ:=Lib.hid cz
   clear ci cz
   go_enter Tryz.func221,Tryz.ntmps221
   go_wp2_with (first | (go_at_call 204;refine(CI.out _).mono ?_;rintro e w' ⟨rfl,rfl⟩) | (go_at_call 205;refine(CZ.out _).mono ?_;rintro e w' ⟨rfl,rfl⟩))
   go_ret
   exact⟨HR.out _ HW.out,rfl⟩
end Go.Proofs.YtoaabebgmdbjeaaGreatDoor
namespace Go.Proofs.YtoaabebgmdbjeaaGreatDoor
open Go.RowKit
theorem step_end {base:Nat} {w w0 w1:World} {v v':Value} {n m g:Nat} {t t':TypeId} {xs ys:List Value} {cs:Array Value} (p q u:Value) (hne:t≠t') (hbx:Box w1 g t' cs) (hw0:w.grownBy w0 v.ownBlock) (hgw:w.heap.size<=g)
  (hown:w1.ownsRow base t 1 v' m ys) (hg:w0.grownBy w1 v.ownBlock) (hm:Moved w0 v v') (hmm:n+xs.length=m) {zs:List Value} (hz:zs++xs=ys):
  (((w1.setCell ⟨g,0,none⟩ p).setCell ⟨g,1,none⟩ q).setCell ⟨g,2,none⟩ u).ownsRow base t 1 v' (n+xs.length) (zs++xs)/\
   w.grownBy (((w1.setCell ⟨g,0,none⟩ p).setCell ⟨g,1,none⟩ q).setCell ⟨g,2,none⟩ u) v.ownBlock/\Moved w v v':=by
 have hno:v'.ownBlock≠some g:=fun e=>hbx.VQ hown hne e.symm
 subst hz
 subst hmm
 refine⟨Gl (Gl (Gl hown hno _) hno _) hno _,?_,?_⟩
 ·exact Fx (Fx (Fx (hw0.trans hg) hgw _) hgw _) hgw _
 ·rcases hm with hm | ⟨k,h1,h2⟩
  ·exact .inl hm
  ·exact .inr ⟨k,h1,Nat.le_trans hw0.size h2⟩
set_option maxRecDepth 20000 in
theorem MF (base:Nat) (v:Value) (n:Nat) (xs:List Value) (b:Int) (w:World) (hown:w.ownsRow base 21 1 v n xs) (hn:n<=1099511627776) (hbase:base<=w.heap.size) (h0:0<=b) (h1:b<256):
  Calls Tryz.prog 220 #[v,.int .u8 b] w (SA base 21 w v n xs (Ee (U.bg b).2) fun v'=>.tuple #[(U.bg b).1.val,v']):=by
 obtain⟨i0,hi,hz0,hz1,hz2⟩:=info_parts Io
 have cs:b<128\/(128<=b/\b<194)\/(194<=b/\b<224)\/(224<=b/\b<240)\/(240<=b/\b<=244)\/244<b:=by omega
 rcases cs with h | h | h | h | h | h
 ·have e:U.bg b=(U.z, [b]):=by unfold U.bg;repeat(first | rw [if_pos (by omega)] | rw [if_neg (by omega)])
  rw [e]
  clear e
  have hown':=Cg hown (.cells #[.int .i64 0,.int .i64 0,.int .i64 0] 95)
  go_enter Tryz.func220,Tryz.ntmps220
  go_wp2_with (at_builtin;go_must (refine Cz rfl (.tmp 10) (.tmp 13) 84 rfl base 21 i0 _ 4 Tryz.underlying84 hi hz0 hz1 hz2 rfl v n xs rfl hown' _ _ _ rfl (by simp) rfl (by omega) hn (by simp;omega) ?_);intro v' w1 hown1 hg1 hm1;have hbx:=(Box.new w 95 #[.int .i64 0,.int .i64 0,.int .i64 0]).grown hg1 (fun e=>by have:=hown.lt _ e.symm;omega);obtain⟨k0,k1,k2,k3,k4,k5⟩:=hbx.three)
  refine bodyPost_ret (v:=.tuple #[U.z.val,v']) (by simp [results,Tryz.results220,go_sem,U.St.val,U.z,k0,k1,k2]) rfl ⟨v',rfl,?_⟩
  exact step_end _ _ _ (by decide) hbx (World.grownBy_alloc w _ _) (Nat.le_refl _) hown1 hg1 hm1 rfl rfl
 ·have e:U.bg b=(U.z, [65533]):=by unfold U.bg;repeat(first | rw [if_pos (by omega)] | rw [if_neg (by omega)])
  rw [e]
  clear e
  have hown':=Cg hown (.cells #[.int .i64 0,.int .i64 0,.int .i64 0] 95)
  go_enter Tryz.func220,Tryz.ntmps220
  go_wp2_with (at_builtin;go_must (refine Cz rfl (.tmp 52) (.tmp 53) 84 rfl base 21 i0 _ 4 Tryz.underlying84 hi hz0 hz1 hz2 rfl v n xs rfl hown' _ _ _ rfl (by simp) rfl (by omega) hn (by simp;omega) ?_);intro v' w1 hown1 hg1 hm1;have hbx:=(Box.new w 95 #[.int .i64 0,.int .i64 0,.int .i64 0]).grown hg1 (fun e=>by have:=hown.lt _ e.symm;omega);obtain⟨k0,k1,k2,k3,k4,k5⟩:=hbx.three)
  refine bodyPost_ret (v:=.tuple #[U.z.val,v']) (by simp [results,Tryz.results220,go_sem,U.St.val,U.z,k0,k1,k2]) rfl ⟨v',rfl,?_⟩
  exact step_end _ _ _ (by decide) hbx (World.grownBy_alloc w _ _) (Nat.le_refl _) hown1 hg1 hm1 rfl rfl
 ·have e:U.bg b=(⟨2,1,b-192⟩, []):=by unfold U.bg;repeat(first | rw [if_pos (by omega)] | rw [if_neg (by omega)])
  rw [e]
  clear e
  have em:=U.SG b h0 h1
  have em':bits .andNot .u8 b 192=b-192:=by omega
  have ew:wrap64 (b-192)=b-192:=IntWalk.wrap64_in _ ⟨by omega,by omega⟩
  have E:=hide em'
  have EW:=hide ew
  clear em em' ew
  go_enter Tryz.func220,Tryz.ntmps220
  go_wp2
  refine bodyPost_ret (v:=.tuple #[(U.St.mk 2 1 (b-192)).val,v]) (by simp [results,Tryz.results220,go_sem,U.St.val,E.out,EW.out]) rfl ⟨v,rfl,?_⟩
  exact⟨by simpa [Ee] using Cg hown _,World.grownBy_alloc w _ _,.inl rfl⟩
 ·have e:U.bg b=(⟨3,1,b-224⟩, []):=by unfold U.bg;repeat(first | rw [if_pos (by omega)] | rw [if_neg (by omega)])
  rw [e]
  clear e
  have em:=U.SH b h0 h1
  have em':bits .andNot .u8 b 224=b-224:=by omega
  have ew:wrap64 (b-224)=b-224:=IntWalk.wrap64_in _ ⟨by omega,by omega⟩
  have E:=hide em'
  have EW:=hide ew
  clear em em' ew
  go_enter Tryz.func220,Tryz.ntmps220
  go_wp2
  refine bodyPost_ret (v:=.tuple #[(U.St.mk 3 1 (b-224)).val,v]) (by simp [results,Tryz.results220,go_sem,U.St.val,E.out,EW.out]) rfl ⟨v,rfl,?_⟩
  exact⟨by simpa [Ee] using Cg hown _,World.grownBy_alloc w _ _,.inl rfl⟩
 ·have e:U.bg b=(⟨4,1,b-240⟩, []):=by unfold U.bg;repeat(first | rw [if_pos (by omega)] | rw [if_neg (by omega)])
  rw [e]
  clear e
  have em:=U.SK b h0 h1
  have em':bits .andNot .u8 b 240=b-240:=by omega
  have ew:wrap64 (b-240)=b-240:=IntWalk.wrap64_in _ ⟨by omega,by omega⟩
  have E:=hide em'
  have EW:=hide ew
  clear em em' ew
  go_enter Tryz.func220,Tryz.ntmps220
  go_wp2
  refine bodyPost_ret (v:=.tuple #[(U.St.mk 4 1 (b-240)).val,v]) (by simp [results,Tryz.results220,go_sem,U.St.val,E.out,EW.out]) rfl ⟨v,rfl,?_⟩
  exact⟨by simpa [Ee] using Cg hown _,World.grownBy_alloc w _ _,.inl rfl⟩
 ·have e:U.bg b=(U.z, [65533]):=by unfold U.bg;repeat(first | rw [if_pos (by omega)] | rw [if_neg (by omega)])
  rw [e]
  clear e
  have hown':=Cg hown (.cells #[.int .i64 0,.int .i64 0,.int .i64 0] 95)
  go_enter Tryz.func220,Tryz.ntmps220
  go_wp2_with (at_builtin;go_must (refine Cz rfl (.tmp 52) (.tmp 53) 84 rfl base 21 i0 _ 4 Tryz.underlying84 hi hz0 hz1 hz2 rfl v n xs rfl hown' _ _ _ rfl (by simp) rfl (by omega) hn (by simp;omega) ?_);intro v' w1 hown1 hg1 hm1;have hbx:=(Box.new w 95 #[.int .i64 0,.int .i64 0,.int .i64 0]).grown hg1 (fun e=>by have:=hown.lt _ e.symm;omega);obtain⟨k0,k1,k2,k3,k4,k5⟩:=hbx.three)
  refine bodyPost_ret (v:=.tuple #[U.z.val,v']) (by simp [results,Tryz.results220,go_sem,U.St.val,U.z,k0,k1,k2]) rfl ⟨v',rfl,?_⟩
  exact step_end _ _ _ (by decide) hbx (World.grownBy_alloc w _ _) (Nat.le_refl _) hown1 hg1 hm1 rfl rfl
end Go.Proofs.YtoaabebgmdbjeaaGreatDoor
namespace Go.Proofs.YtoaabebgmdbjeaaGreatDoor
open Go.RowKit
theorem bO (base:Nat) (v:Value) (n:Nat) (xs:List Value) (s:U.St) (b:Int) (w:World) (hown:w.ownsRow base 21 1 v n xs) (hn:n<=1099511627776) (hbase:base<=w.heap.size) (h0:0<=b) (h1:b<256) (hs:s.need<=0):
  Calls Tryz.prog 213 #[s.val,v,.int .u8 b] w (SA base 21 w v n xs (Ee (U.it s b).2) fun v'=>.tuple #[(U.it s b).1.val,v']):=by
 have e:U.it s b=U.bg b:=by unfold U.it;rw [if_pos hs]
 rw [e]
 clear e
 have ch:=G9 s
 have eh:decide (0<s.need)=false:=decide_eq_false (by omega)
 have cb:=fun w' ho hb'=>MF base v n xs b w' ho hn hb' h0 h1
 generalize U.bg b=r at cb
 obtain⟨⟨q0,q1,q2⟩,l⟩:=r
 obtain⟨sn,sh,sa⟩:=s
 simp only [U.St.val] at cb ch eh⊢
 rw [eh] at ch
 clear eh hs
 have CB:=hide cb
 have CH:=hide ch
 clear cb ch
 go_enter Tryz.func213,Tryz.ntmps213
 go_wp2_with (first
  | (go_at_call 139;go_must (refine(CH.out _).mono ?_);rintro e w' ⟨rfl,rfl⟩)
  | (go_at_call 220;go_must (refine(CB.out _ (((hown.alloc _).alloc _).alloc _) (by simp;omega)).mono ?_);rintro e w1 ⟨v',rfl,hown1,hg1,hm1⟩;have hbx:=(((Box.new (w.alloc _) 95 #[.int .i64 0,.int .i64 0,.int .i64 0]).alloc _).grown hg1 (fun e=>by have:=hown.lt _ e.symm;simp at this;omega));rw [show(w.alloc (.cells #[.int .i64 sn,.int .i64 sh,.int .i64 sa] 95)).heap.size=w.heap.size+1 from by simp] at hbx;obtain⟨k0,k1,k2,k3,k4,k5⟩:=hbx.three))
 refine bodyPost_ret (v:=.tuple #[.agg #[.int .i64 q0,.int .i64 q1,.int .i64 q2],v']) (by simp [results,Tryz.results213,go_sem,k0,k1,k2]) rfl ⟨v',rfl,?_⟩
 exact step_end _ _ _ (by decide) hbx (Ck (Ck (World.grownBy_alloc w _ _) _) _) (by omega) hown1 hg1 hm1 rfl rfl
theorem bP (base:Nat) (v:Value) (n:Nat) (xs:List Value) (s:U.St) (b:Int) (w:World) (hown:w.ownsRow base 21 1 v n xs) (hn:n<=1099511627776) (hbase:base<=w.heap.size) (h0:128<=b) (h1:b<192) (hs:0<s.need) (hso:s.ok) (hm:s.have_+1<s.need):
  Calls Tryz.prog 213 #[s.val,v,.int .u8 b] w (SA base 21 w v n xs (Ee (U.it s b).2) fun v'=>.tuple #[(U.it s b).1.val,v']):=by
 have e:U.it s b=(⟨s.need,s.have_+1,s.acc*64+(b-128)⟩, []):=by unfold U.it;rw [if_neg (by omega),if_neg (by omega),if_pos hm]
 rw [e]
 clear e
 have bd:=hso.bd
 have ch:=G9 s
 have eh:decide (0<s.need)=true:=decide_eq_true hs
 obtain⟨sn,sh,sa⟩:=s
 simp only [U.St.val] at ch eh⊢
 simp only [] at bd hs hm
 rw [eh] at ch
 clear eh hso
 have CH:=hide ch
 have em:=U.KM b (by omega) (by omega)
 have em':bits .andNot .u8 b 63=128:=by omega
 have en:=U.Z5 b (by omega) (by omega)
 have en':bits .and .u8 b 63=b-128:=by omega
 have eo:=Gm 6 (sa*64) (b-128) (by omega) (by omega) (by omega) (by omega) (by omega)
 clear ch em en
 go_enter Tryz.func213,Tryz.ntmps213
 go_wp2_with (first
  | (go_at_call 139;go_must (refine(CH.out _).mono ?_);rintro e w' ⟨rfl,rfl⟩))
 refine bodyPost_ret (v:=.tuple #[.agg #[.int .i64 sn,.int .i64 (sh+1),.int .i64 (sa*64+(b-128))],v]) (by simp [results,Tryz.results213,go_sem]) rfl ⟨v,rfl,?_⟩
 exact⟨by simpa [Ee] using ((hown.alloc _).alloc _).alloc _,Ck (Ck (World.grownBy_alloc w _ _) _) _,.inl rfl⟩
theorem bQ (base:Nat) (v:Value) (n:Nat) (xs:List Value) (s:U.St) (b:Int) (w:World) (hown:w.ownsRow base 21 1 v n xs) (hn:n<=1099511627776) (hbase:base<=w.heap.size) (h0:128<=b) (h1:b<192) (hs:0<s.need) (hso:s.ok) (hm:s.need<=s.have_+1):
  Calls Tryz.prog 213 #[s.val,v,.int .u8 b] w (SA base 21 w v n xs (Ee (U.it s b).2) fun v'=>.tuple #[(U.it s b).1.val,v']):=by
 obtain⟨i0,hi,hz0,hz1,hz2⟩:=info_parts Io
 have e:U.it s b=(U.z, [U.wh s.need (s.acc*64+(b-128))]):=by unfold U.it;rw [if_neg (by omega),if_neg (by omega),if_neg (by omega)]
 rw [e]
 clear e
 have bd:=hso.bd
 have ch:=G9 s
 have eh:decide (0<s.need)=true:=decide_eq_true hs
 obtain⟨sn,sh,sa⟩:=s
 simp only [U.St.val] at ch eh⊢
 simp only [] at bd hs hm
 rw [eh] at ch
 clear eh hso
 have CH:=hide ch
 have em:=U.KM b (by omega) (by omega)
 have em':bits .andNot .u8 b 63=128:=by omega
 have en:=U.Z5 b (by omega) (by omega)
 have en':bits .and .u8 b 63=b-128:=by omega
 have eo:=Gm 6 (sa*64) (b-128) (by omega) (by omega) (by omega) (by omega) (by omega)
 have ha0:0<=sa*64+(b-128):=by omega
 have ha1:sa*64+(b-128)<2147483648:=by omega
 generalize sa*64+(b-128)=A at eo ha0 ha1⊢
 have CW:=hide (Tz sn A ha0 ha1)
 generalize U.wh sn A=R at CW⊢
 have aC:=fun o1 o2 o3=>Cg (Cg (Cg hown o1) o2) o3
 have HO:=hide aC
 clear ch em en aC
 go_enter Tryz.func213,Tryz.ntmps213
 go_wp2_with (first
  | (go_at_call 139;go_must (refine(CH.out _).mono ?_);rintro e w' ⟨rfl,rfl⟩)
  | (go_at_call 221;go_must (refine(CW.out _).mono ?_);rintro e w' ⟨rfl,rfl⟩)
  | (at_builtin;go_must (refine Cz rfl (.tmp 46) (.tmp 52) 84 rfl base 21 i0 _ 4 Tryz.underlying84 hi hz0 hz1 hz2 rfl v n xs rfl (HO.out _ _ _) _ _ _ rfl (by simp) rfl (by omega) hn (by simp;omega) ?_);intro v' w1 hown1 hg1 hm1;have hbx:=(((Box.new (w.alloc _) 95 #[.int .i64 0,.int .i64 0,.int .i64 0]).alloc _).grown hg1 (fun e=>by have:=hown.lt _ e.symm;simp at this;omega));rw [World.size_alloc] at hbx;obtain⟨k0,k1,k2,k3,k4,k5⟩:=hbx.three))
 refine bodyPost_ret (v:=.tuple #[U.z.val,v']) (by simp [results,Tryz.results213,go_sem,U.z,U.St.val,k0,k1,k2]) rfl ⟨v',rfl,?_⟩
 exact step_end _ _ _ (by decide) hbx (Ck (Ck (World.grownBy_alloc w _ _) _) _) (by omega) hown1 hg1 hm1 rfl rfl
theorem bS (base:Nat) (v:Value) (n:Nat) (xs:List Value) (s:U.St) (b:Int) (w:World) (hown:w.ownsRow base 21 1 v n xs) (hn:n<=1099511627775) (hbase:base<=w.heap.size) (h0:0<=b) (h1:b<256) (hs:0<s.need) (hb:b<128\/192<=b):
  Calls Tryz.prog 213 #[s.val,v,.int .u8 b] w (SA base 21 w v n xs (Ee (U.it s b).2) fun v'=>.tuple #[(U.it s b).1.val,v']):=by
 obtain⟨i0,hi,hz0,hz1,hz2⟩:=info_parts Io
 have e:U.it s b=((U.bg b).1,65533::(U.bg b).2):=by unfold U.it;rw [if_neg (by omega),if_pos hb]
 rw [e]
 clear e
 have ch:=G9 s
 have eh:decide (0<s.need)=true:=decide_eq_true hs
 have cb:=fun v w' n xs (hn:n<=1099511627776) ho hb'=>MF base v n xs b w' ho hn hb' h0 h1
 generalize U.bg b=r at cb
 obtain⟨⟨q0,q1,q2⟩,l⟩:=r
 obtain⟨sn,sh,sa⟩:=s
 simp only [U.St.val] at cb ch eh⊢
 rw [eh] at ch
 clear eh hs
 have CB:=hide cb
 have CH:=hide ch
 have em:=U.KM b h0 h1
 have hc:b-b%64<128\/128<b-b%64:=by omega
 generalize b-b%64=c at em hc
 have HO:=hide (fun o1 o2 o3=>Cg (Cg (Cg hown o1) o2) o3)
 clear cb ch
 rcases hc with hc | hc
 all_goals
  go_enter Tryz.func213,Tryz.ntmps213
  go_wp2_with (first
   | (go_at_call 139;go_must (refine(CH.out _).mono ?_);rintro e w' ⟨rfl,rfl⟩)
   | (at_builtin;go_must (refine Cz rfl (.tmp 19) (.tmp 20) 84 rfl base 21 i0 _ 4 Tryz.underlying84 hi hz0 hz1 hz2 rfl v n xs rfl (HO.out _ _ _) _ _ _ rfl (by simp) rfl (by omega) (by omega) (by simp;omega) ?_);intro v1 w1 hown1 hg1 hm1)
   | (go_at_call 220;go_must (refine(CB.out _ _ _ _ (by omega) hown1 (by have:=hg1.size;simp at this;omega)).mono ?_);rintro e w2 ⟨v',rfl,hown2,hg2,hm2⟩;have hbx:=((((Box.new (w.alloc _) 95 #[.int .i64 0,.int .i64 0,.int .i64 0]).alloc _).grown hg1 (fun e=>by have:=hown.lt _ e.symm;simp at this;omega)).grown hg2 (Box.VQ (((Box.new (w.alloc _) 95 #[.int .i64 0,.int .i64 0,.int .i64 0]).alloc _).grown hg1 (fun e=>by have:=hown.lt _ e.symm;simp at this;omega)) hown1 (by decide)));rw [World.size_alloc] at hbx;obtain⟨k0,k1,k2,k3,k4,k5⟩:=hbx.three))
  refine bodyPost_ret (v:=.tuple #[.agg #[.int .i64 q0,.int .i64 q1,.int .i64 q2],v']) (by simp [results,Tryz.results213,go_sem,k0,k1,k2]) rfl ⟨v',rfl,?_⟩
  exact step_end _ _ _ (by decide) hbx (Ck (Ck (World.grownBy_alloc w _ _) _) _) (by omega) hown2 (Im hg1 hm1 hg2) (hm1.trans hm2 hg1.size) (by simp [Ee];omega) (by simp [Ee])
theorem W9 (base:Nat) (v:Value) (n:Nat) (xs:List Value) (s:U.St) (b:Int) (w:World) (hown:w.ownsRow base 21 1 v n xs) (hn:n<=1099511627775) (hbase:base<=w.heap.size) (h0:0<=b) (h1:b<256) (hso:s.ok):
  Calls Tryz.prog 213 #[s.val,v,.int .u8 b] w (SA base 21 w v n xs (Ee (U.it s b).2) fun v'=>.tuple #[(U.it s b).1.val,v']):=by
 by_cases hs:s.need<=0
 ·exact bO base v n xs s b w hown (by omega) hbase h0 h1 hs
 ·by_cases hb:b<128\/192<=b
  ·exact bS base v n xs s b w hown hn hbase h0 h1 (by omega) hb
  ·by_cases hm:s.have_+1<s.need
   ·exact bP base v n xs s b w hown (by omega) hbase (by omega) (by omega) (by omega) hso hm
   ·exact bQ base v n xs s b w hown (by omega) hbase (by omega) (by omega) (by omega) hso (by omega)
end Go.Proofs.YtoaabebgmdbjeaaGreatDoor
namespace Go.Proofs.YtoaabebgmdbjeaaGreatDoor
open Go.RowKit
def bT (w:World) (s:U.St) (l:List Int) (e:Ending) (w':World):Prop:=
 ∃v',e=.returned (.tuple #[s.val,v'])/\w'.ownsRow w.heap.size 21 1 v' l.length (Ee l)/\Below w.heap.size w w'
theorem XA (s:U.St) (b:Int) (w:World) (h0:0<=b) (h1:b<256) (hso:s.ok):
  Calls Tryz.prog 202 #[s.val,.int .u8 b] w (bT w (U.it s b).1 (U.it s b).2):=by
 have ci:=fun w' hb=>W9 w.heap.size (.slice none 0 0) 0 [] s b w' (World.ownsRow_nil _ _ _ _) (by omega) hb h0 h1 hso
 generalize U.it s b=r at ci⊢
 obtain⟨⟨q0,q1,q2⟩,l⟩:=r
 obtain⟨sn,sh,sa⟩:=s
 simp only [U.St.val] at ci⊢
 clear hso
 have CI:=hide ci
 clear ci
 go_enter Tryz.func202,Tryz.ntmps202
 go_wp2_with (go_at_call 213;go_must (refine(CI.out _ (by simp;omega)).mono ?_);rintro e w1 ⟨v',rfl,hown1,hg1,hm1⟩;have hbx:=(Box.new (w.alloc (.cells #[.int .i64 sn,.int .i64 sh,.int .i64 sa] 95)) 95 #[.int .i64 0,.int .i64 0,.int .i64 0]).grown hg1 (by simp [Value.ownBlock]);rw [World.size_alloc] at hbx;obtain⟨k0,k1,k2,k3,k4,k5⟩:=hbx.three)
 refine bodyPost_ret (v:=.tuple #[.agg #[.int .i64 q0,.int .i64 q1,.int .i64 q2],v']) (by simp [results,Tryz.results202,go_sem,k0,k1,k2]) rfl ⟨v',rfl,?_⟩
 have R:=step_end (n:=0) (zs:= []) (.int .i64 q0) (.int .i64 q1) (.int .i64 q2) (by decide) hbx (Ck (World.grownBy_alloc w _ _) _) (by omega) hown1 hg1 hm1 rfl rfl
 exact⟨by simpa [Ee] using R.1,Dv R.2.1 (Nat.le_refl _) (by simp [Value.ownBlock])⟩
end Go.Proofs.YtoaabebgmdbjeaaGreatDoor
namespace Go.Proofs.YtoaabebgmdbjeaaGreatDoor
open Go.RowKit
def GR:Array Value:=((List.range 24).flatMap fun k=> [Value.int .u8 (PA.FI k),Value.int .u8 (PA.Jd k)]).toArray
def H6:Array Value:=(PA.tab.map (Value.int .u8)).toArray
structure Fa (w:World):Prop where
 runs: ∃t,w.heap[5]? =some (.cells GR t (0,0))
 moves: ∃t,w.heap[2]? =some (.cells H6 t (0,0))
theorem Fa.below {w w':World} {B:Nat} (h:Fa w) (hb:Below B w w') (hB:6<=B):Fa w':=by
 obtain⟨⟨t,h⟩,⟨u,k⟩⟩:=h
 exact⟨⟨t,(hb.block _ (by omega)).trans h⟩,⟨u,(hb.block _ (by omega)).trans k⟩⟩
theorem Fa.lt {w:World} (h:Fa w):6<=w.heap.size:=by
 obtain⟨⟨t,h⟩,⟨u,k⟩⟩:=h
 have a:=(Array.getElem?_eq_some_iff.1 h).1
 have b:=(Array.getElem?_eq_some_iff.1 k).1
 omega
theorem Fa.keep {w w':World} (h:Fa w) (hb:Below w.heap.size w w'):Fa w':=h.below hb h.lt
theorem gG:Tryz.prog.globalNamed "linguist/parse.runs" =some 5:=by kernel_rfl
theorem gH:(Tryz.prog.globals[5]?).map (·.type)=some 199:=by kernel_rfl
theorem T9:tiled Tryz.prog 4 199=true:=by kernel_rfl
theorem XB:flat (H:=Unit) Rows.laid_linguist_parse_runs=some GR.toList:=by kernel_rfl
theorem bU:Tryz.prog.globalNamed "linguist/parse.moves" =some 2:=by kernel_rfl
theorem bV:(Tryz.prog.globals[2]?).map (·.type)=some 179:=by kernel_rfl
theorem Qf:tiled Tryz.prog 4 179=true:=by kernel_rfl
theorem UA:flat (H:=Unit) Rows.laid_linguist_parse_moves=some H6.toList:=by kernel_rfl
theorem UC {w:World} {l:List (String × DataW Unit)} (h:laidMet Tryz.prog l w) (hm:("linguist/parse.runs",Rows.laid_linguist_parse_runs)∈l) (hm':("linguist/parse.moves",Rows.laid_linguist_parse_moves)∈l):Fa w:=by
 obtain⟨t,ht⟩:=Cr 4 gG gH T9 XB (by rw [show GR.toList.length=48 from by kernel_rfl];omega) h hm
 obtain⟨u,hu⟩:=Cr 4 bU bV Qf UA (by rw [show H6.toList.length=208 from by kernel_rfl];omega) h hm'
 exact⟨⟨t,by simpa using ht⟩,⟨u,by simpa using hu⟩⟩
theorem UD (w:World) (k:Nat) (hk:k<24):(Instr.index 199 (.agg GR) (.int .i64 (k:Int))).run Tryz.prog w=.ok (.agg #[.int .u8 (PA.FI k),.int .u8 (PA.Jd k)]) w:=by
 obtain rfl | rfl | rfl | rfl | rfl | rfl | rfl | rfl | rfl | rfl | rfl | rfl | rfl | rfl | rfl | rfl | rfl | rfl | rfl | rfl | rfl | rfl | rfl | rfl:k=0\/k=1\/k=2\/k=3\/k=4\/k=5\/k=6\/k=7\/k=8\/k=9\/k=10\/k=11\/k=12\/k=13\/k=14\/k=15\/k=16\/k=17\/k=18\/k=19\/k=20\/k=21\/k=22\/k=23:=by omega
 all_goals kernel_rfl
theorem UE:(Tryz.prog.info? 199).map (·.size)=some GR.size:=by kernel_rfl
theorem UF {w:World} (h:Fa w) (st c:Int) (h0:0<=st) (h1:st<13) (h2:0<=c) (h3:c<16):w.cell? ⟨2,st.toNat*16+c.toNat,none⟩=some (.int .u8 (PA.cellAt st c)):=by
 obtain⟨t,h⟩:=h.moves
 rw [cell_of_row w _ (st.toNat*16+c.toNat) _ t (0,0) h]
 have hl:st.toNat*16+c.toNat<PA.tab.length:=by
  rw [show PA.tab.length=208 from by kernel_rfl]
  omega
 unfold H6 PA.cellAt
 rw [List.getElem?_toArray,List.getElem?_map,List.getElem?_eq_getElem hl,List.getD_eq_getElem?_getD,List.getElem?_eq_getElem hl]
 rfl
theorem OY (b:Int) (w:World) (h0:0<=b) (h1:b<256) (hs:Fa w):Calls Tryz.prog 174 #[.int .u8 b] w fun e w'=>e=.returned (.int .u8 (PA.cls b))/\Below w.heap.size w w':=by
 obtain⟨⟨tt,hg⟩,_⟩:=hs
 have SI:=hide UD
 have SC:=hide UE
 generalize hcs:GR=cs at hg SI SC
 clear hcs
 have hp:=PA.Kv b
 go_enter Tryz.func174,Tryz.ntmps174
 go_wp2_with (refine wpList_load_row rfl 199 _ rfl 5 rfl tt cs (0,0) _ hg Tryz.underlying199 rfl SC.out ?_)
 go_loopw [6] (fun i wr=> ∃k:Nat,k<=PA.place b/\i=.int .i64 k/\Below w.heap.size w wr) (fun i _=>24-(intOf i).toNat)
 case atStart=>exact⟨0,by omega,rfl,Below.refl _ _⟩
 case round=>
  obtain⟨k,hk,rfl,hbel⟩:=hrel
  have hsz:=hbel.size
  obtain hlt | rfl:k<24\/k=24:=by omega
  ·have si:=fun w'=>SI.out w' k hlt
   obtain hx | hx:k=PA.place b\/k<PA.place b:=by omega
   ·have hle:b<=PA.FI k:=by
     rw [hx]
     exact PA.Wp h0 h1 (by omega)
    have E:=hide (show PA.Jd k=PA.cls b by unfold PA.cls;rw [<- hx])
    generalize PA.Jd k=y at si E
    generalize PA.FI k=x at si hle
    clear hx hp hk
    go_wp2
    go_ret
    exact⟨Br E.out,hbel.alloc hsz _⟩
   ·have hle:PA.FI k<b:=PA.Bl h0 h1 hx
    have hle': ¬b<=PA.FI k:=by omega
    generalize PA.Jd k=y at si
    generalize PA.FI k=x at si hle hle'
    go_wp2
    go_roundw
    case rel=>exact⟨k+1,by omega,by go_num,hbel.alloc hsz _⟩
    case measure=>simp [intOf];omega
  ·have E:=hide (PA.Wq (b:=b) (by omega))
   go_wp2
   go_ret
   exact⟨Br E.out.symm,hbel⟩
end Go.Proofs.YtoaabebgmdbjeaaGreatDoor
namespace Go.Proofs.YtoaabebgmdbjeaaGreatDoor
open Go.RowKit
theorem gI (b:Int) (h0:0<=b) (h1:b<256):bits .and .u8 b 15=b%16:=
 U.Jl (p:=fun b=>bits .and .u8 b 15=b%16) (by decide+kernel) b h0 h1
theorem XC (b:Int) (h0:0<=b) (h1:b<256):bits .andNot .u8 b 15=b-b%16:=
 U.Jl (p:=fun b=>bits .andNot .u8 b 15=b-b%16) (by decide+kernel) b h0 h1
theorem gJ {k:IntKind} {a b a' b':Int} (h:a=a') (h':b=b'):Ending.returned (.tuple #[.int k a,.int k b])=.returned (.tuple #[.int k a',.int k b']):=by rw [h,h']
theorem K5 (st b:Int) (w:World) (s0:1<=st) (s1:st<=12) (h0:0<=b) (h1:b<256) (hs:Fa w):
  Calls Tryz.prog 141 #[.int .u8 st,.int .u8 b] w fun e w'=>e=.returned (.tuple #[.int .u8 (PA.act st b),.int .u8 (PA.nxt st b)])/\Below w.heap.size w w':=by
 have CC:=hide (fun w' h=>OY b w' h0 h1 h)
 have cb:=PA.bE b h0 h1
 have mb:=PA.gB st b s0 s1 h0 h1
 have lt:2<w.heap.size:=by have:=hs.lt;omega
 have MC:=UF hs st (PA.cls b) (by omega) (by omega) cb.1 cb.2
 rw [show PA.cellAt st (PA.cls b)=PA.mv st b from rfl] at MC
 have EA:=hide (show PA.mv st b-PA.mv st b%16=PA.act st b from rfl)
 have EN:=hide (show PA.nxt st b=if PA.mv st b%16=0 then st else PA.mv st b%16 from rfl)
 have a1:=gI _ mb.1 mb.2
 have a2:=XC _ mb.1 mb.2
 generalize PA.act st b=ac at EA⊢
 generalize PA.nxt st b=nx at EN⊢
 generalize PA.mv st b=m at mb MC EA EN a1 a2
 generalize PA.cls b=c at CC cb MC
 have HS:=hide hs
 have R0: ∀w',BL w w'->w'.cell? ⟨2,st.toNat*16+c.toNat,none⟩=some (.int .u8 m):=fun w' h=>(h.cell (by simpa using lt)).trans MC
 have hd:BL w w.drew:=(Below.refl _ _).drew
 have s2:0<=st:=by omega
 have s3:st<13:=by omega
 have c0:=cb.1
 have c1:=cb.2
 have cs:(m%16==0)=true/\nx=st\/(m%16==0)=false/\nx=m%16:=by
  have:=EN.out
  by_cases h:m%16=0
  ·rw [if_pos h] at this
   exact .inl ⟨by simpa using h,this⟩
  ·rw [if_neg h] at this
   exact .inr ⟨by simpa using h,this⟩
 clear MC hs EN cb
 rcases cs with ⟨h,e⟩ | ⟨h,e⟩
 all_goals
  have E:=hide e
  clear e
  go_enter Tryz.func141,Tryz.ntmps141
  go_wp2_with fail
  go_region_held3 (fun w'=>BL w w')
   (first | with_reducible exact hd | with_reducible exact hC.out)
   (first | (go_at_call 174;refine(CC.out _ (HS.out.keep (show BL w _ from by assumption))).mono ?_;rintro e wC ⟨rfl,bb⟩;have hC:=Lib.hid (BL.call (by assumption) bb)))
  go_wp2_with fail
  go_ret2
  exact⟨gJ EA.out E.out.symm,show BL w _ from by assumption⟩
end Go.Proofs.YtoaabebgmdbjeaaGreatDoor
