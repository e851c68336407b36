/- A part of the proof: ReplyUse, ReplyOuts. -/
import Derived.Test.YtoaabebgmdbjeaaGreatDoorRq12
import Derived.Test.YtoaabebgmdbjeaaGreatDoorRq26
set_option maxRecDepth 100000
set_option maxHeartbeats 16000000
set_option linter.unusedVariables false
namespace Go.Proofs.YtoaabebgmdbjeaaGreatDoor
open Go Go.RowKit
theorem Rp {l:List Int} (hl: ∀x∈l, -1<=x/\x<=65535):Mv l 0 0 0 65535=RP.first l:=by
 show min (max (if Bz l 0= -1\/(Bz l 0=0/\(0:Int)<0) then 0 else Bz l 0) 0) 65535=RP.first l
 unfold RP.first
 cases l with
 | nil=>decide
 | cons a l=>
  have h:=hl a (by simp)
  have hp:Bz (a::l) 0=a:=by
   unfold Bz
   rw [if_neg (by simp only [List.length_cons];omega)]
   rfl
  rw [hp]
  simp only [List.getD_cons_zero]
  split<;>split<;>omega
theorem LW (it fn:Int) (A:Option Addr) (n c:Nat) (w:World):
  Calls Tryz.prog 119 #[.int .u8 it,.int .u8 fn,.slice A n c] w fun e w'=>e=.returned (.agg #[.int .i64 4,.int .i32 0,.int .u8 63,.int .u8 it,.int .u8 fn,.slice A n c,.string ⟨#[]⟩])/\Below w.heap.size w w':=by
 have bx:=Box.new w 34 #[.int .i64 0,.int .i32 0,.int .u8 0,.int .u8 0,.int .u8 0,.slice none 0 0,.string ⟨#[]⟩]
 have bb:=(Below.refl w.heap.size w).alloc (Nat.le_refl _) (.cells #[.int .i64 0,.int .i32 0,.int .u8 0,.int .u8 0,.int .u8 0,.slice none 0 0,.string ⟨#[]⟩] 34)
 go_enter Tryz.func119,Tryz.ntmps119
 go_upto_region 1 with fail
 generalize w.alloc (.cells #[.int .i64 0,.int .i32 0,.int .u8 0,.int .u8 0,.int .u8 0,.slice none 0 0,.string ⟨#[]⟩] 34)=w1 at*
 have fr:=bx.frozen
 obtain⟨k0,k1,k2,k3,k4,k5,k6⟩:=Box.seven bx
 go_wp2_with fail
 obtain⟨j0,j1,j2,j3,j4,j5,j6⟩:=Box.seven (Box.Gv bx (.int .i64 4) (.int .i32 0) (.int .u8 63) (.int .u8 it) (.int .u8 fn) (.slice A n c) (.string ⟨#[]⟩))
 have bl:=Bt bb (Nat.le_refl _) (.int .i64 4) (.int .i32 0) (.int .u8 63) (.int .u8 it) (.int .u8 fn) (.slice A n c) (.string ⟨#[]⟩)
 generalize (((((((w1.setCell ⟨w.heap.size,0,none⟩ (.int .i64 4)).setCell ⟨w.heap.size,1,none⟩ (.int .i32 0)).setCell ⟨w.heap.size,2,none⟩ (.int .u8 63)).setCell ⟨w.heap.size,3,none⟩ (.int .u8 it)).setCell ⟨w.heap.size,4,none⟩ (.int .u8 fn)).setCell ⟨w.heap.size,5,none⟩ (.slice A n c)).setCell ⟨w.heap.size,6,none⟩ (.string ⟨#[]⟩))=W at*
 refine bodyPost_ret (v:=.agg #[.int .i64 4,.int .i32 0,.int .u8 63,.int .u8 it,.int .u8 fn,.slice A n c,.string ⟨#[]⟩]) (by simp [results,Tryz.results119,go_sem,j0,j1,j2,j3,j4,j5,j6]) rfl ⟨rfl,bl⟩
theorem aF (i:Int) (k:Nat) (hi:i.toNat=k) (hk:k<=60000) (w:World):Calls Tryz.prog 157 #[.int .i64 i] w fun e w'=>e=.returned (.int .i64 ((k:Int)+1))/\w'=w:=by
 by_cases h0:i<0
 ·obtain rfl:k=0:=by omega
  have h1:i<=0:=by omega
  have h2:max i 0=0:=by omega
  clear hi hk
  go_enter Tryz.func157,Tryz.ntmps157
  go_wp2_with fail
  go_ret
  exact⟨by first | rfl | (rw [h2];rfl),rfl⟩
 ·obtain rfl:i=(k:Nat):=by omega
  have h3:0<=(k:Int):=by omega
  have h4:(k:Int)<=65534:=by omega
  have h5:min (k:Int) 65534+1=(k:Int)+1:=by omega
  have H5:=hide h5
  clear h5 hi h0 hk
  go_enter Tryz.func157,Tryz.ntmps157
  go_wp2_with fail
  go_ret
  exact⟨by show Ending.returned (.int .i64 (min (k:Int) 65534+1))=_;rw [H5.out],rfl⟩
def FH (B:Nat) (w:World) (A:Option Addr) (n:Nat) (xs:List Value):Prop:=Seen w w.heap.size A n xs/\ ∀ad,A=some ad->B<=ad.block
section
variable {B B' n g:Nat} {w w':World} {A:Option Addr} {xs:List Value}
theorem FH.below (h:FH B w A n xs) (b:Below w.heap.size w w'):FH B w' A n xs:=⟨(h.1.below b).more b.size,h.2⟩
theorem FH.base (h:FH B w A n xs) (hB:B'<=B):FH B' w A n xs:=⟨h.1,fun ad e=>Nat.le_trans hB (h.2 ad e)⟩
theorem FH.far (h:FH B w A n xs) (hg:g<B) (i:Nat) (v:Value):FH B (w.setCell ⟨g,i,none⟩ v) A n xs:=
 ⟨⟨h.1.1,fun j u hu=>by
  obtain⟨ad,e,h1,h2⟩:=h.1.2 j u hu
  have:=h.2 ad e
  exact⟨ad,e,by simpa using h1,by rw [World.cell?_setCell_other _ _ _ _ (fun e2=>by have e3:=congrArg Addr.block e2;rw [addBlock] at e3;simp at e3;omega)];exact h2⟩⟩,h.2⟩
theorem FH.Ub (h:FH B w A n xs) (hg:g<B) (p0 p1 p2 p3 p4 p5 p6:Value):FH B (((((((w.setCell ⟨g,0,none⟩ p0).setCell ⟨g,1,none⟩ p1).setCell ⟨g,2,none⟩ p2).setCell ⟨g,3,none⟩ p3).setCell ⟨g,4,none⟩ p4).setCell ⟨g,5,none⟩ p5).setCell ⟨g,6,none⟩ p6) A n xs:=
 ((((((h.far hg _ _).far hg _ _).far hg _ _).far hg _ _).far hg _ _).far hg _ _).far hg _ _
theorem FH.Ec {T:TypeId} {cs:Array Value} (h:Box w g T cs) (hx:cs.toList=xs) (hn:xs.length=n):FH g w (some ⟨g,0,none⟩) n xs:=⟨Seen.Ec h hx hn h.lt,fun ad e=>by cases e;exact Nat.le_refl _⟩
theorem FH.CY {e:TypeId} {c:Nat} (h:w.ownsRow B e 1 (.slice A n c) n xs):FH B w A n xs:=⟨Seen.CY h,fun ad ea=>by
 subst ea
 rcases h.2 with ⟨h1,h2⟩ | ⟨g,cap,cur,h1,h2,_⟩
 ·cases h1
 ·cases h1;exact h2⟩
theorem FH.IV:FH B w none 0 [] :=⟨Seen.IV _ _ _,fun ad e=>nomatch e⟩
end
theorem Lu {f:Int} {A:Option Addr} {n c:Nat} {l:List Int} {w:World} (ps:List Int) (m:Nat) (hp:DK l=ps) (hm:ps.length=m) (hA:Seen w w.heap.size A n (Br l)) (hn:n<=1099511627776):
  Calls Tryz.prog 30 #[.int .u8 f,.slice A n c] w fun e w'=> ∃A' c',e=.returned (.agg #[.int .i64 4,.int .i32 0,.int .u8 0,.int .u8 0,.int .u8 f,.slice A' m c',.string ⟨#[]⟩])/\m<=c'/\FH w.heap.size w' A' m (Br ps)/\Below w.heap.size w w':=by
 subst hp hm
 refine(dQ f A n c l w hA hn).mono ?_
 rintro e w' ⟨v,he,h1,h2⟩
 obtain⟨A,c,rfl,hc,_⟩:=Da h1
 exact⟨A,c,he,hc,FH.CY h1,h2⟩
def iO (w:World) (ev:PA.Ev) (e:Ending) (w':World):Prop:= ∃A c,e=.returned (.agg #[.int .i64 ev.kind,.int .i32 ev.rune,.int .u8 ev.priv,.int .u8 ev.inter,.int .u8 ev.final,.slice A ev.params.length c,.string ⟨#[]⟩])/\ev.params.length<=c/\FH w.heap.size w' A ev.params.length (Br ev.params)/\Below w.heap.size w w'
theorem aG {w:World} {g:Nat} {T:TypeId} {y z:Int} (h:Box w g T #[.int .i64 y,.int .i64 z]):Seen w w.heap.size (some ⟨g,0,none⟩) 2 (Br [y,z]):=
 ⟨rfl,fun j u hu=>by
  match j with
  | 0=>
   simp [Br] at hu
   subst hu
   exact⟨_,rfl,h.lt,h.cell 0⟩
  | 1=>
   simp [Br] at hu
   subst hu
   exact⟨_,rfl,h.lt,h.cell 1⟩
  | j+2=>simp [Br] at hu⟩
def RP.one (i:Int):Int:=(i.toNat:Int)+1
theorem Xy (s:SN.Sc) (x:Value) (w:World) (hr:s.row<=60000) (hc:s.col<=60000) (htp:s.top<=60000) (hx:x.oneCell'=true):
  Calls Tryz.prog 118 #[.agg (scA x s)] w (iO w (RP.place s)):=by
 obtain⟨m,hm⟩: ∃m,(if s.org then s.row-s.top else s.row)=m:=⟨_,rfl⟩
 have hm1:m<=60000:=by rw [<- hm];split<;>omega
 obtain⟨z,hz⟩: ∃z:Int,(if s.org then (s.row:Int)-(s.top:Int) else (s.row:Int))=z:=⟨_,rfl⟩
 have hzm:z.toNat=m:=by rw [<- hm, <- hz];split<;>omega
 have HP:=hide (show RP.place s=⟨4,0,0,0,82, [(m:Int)+1,(s.col:Int)+1], []⟩ by unfold RP.place;rw [hm])
 have hzb:z.toNat<=60000:=by rw [hzm];exact hm1
 have hcb:((s.col:Nat):Int).toNat<=60000:=by omega
 have FO:=hide (fun (i:Int) (hi:i.toNat<=60000) w'=>(show Calls Tryz.prog 157 #[.int .i64 i] w' fun e w''=>e=.returned (.int .i64 (RP.one i))/\w''=w' from aF i i.toNat rfl hi w'))
 have CS:=hide (fun (w':World) g (hb:Box w' g 3 #[.int .i64 (RP.one z),.int .i64 (RP.one (s.col:Nat))])=>Lu (f:=82) (A:=some ⟨g,0,none⟩) (n:=2) (c:=2) (l:= [RP.one z,RP.one (s.col:Nat)]) (w:=w') [RP.one z,RP.one (s.col:Nat)] 2 (by unfold DK;rw [if_neg (by simp)]) rfl (aG hb) (by omega))
 have HQ:=hide (show RP.place s=⟨4,0,0,0,82, [RP.one z,RP.one (s.col:Nat)], []⟩ by rw [HP.out];unfold RP.one;rw [hzm];simp)
 clear HP
 have zb: -60000<=(s.row:Int)-(s.top:Int)/\(s.row:Int)-(s.top:Int)<=60000:=by omega
 have HZ:=hide hz
 clear hm hzm hz hm1
 go_enter Tryz.func118,Tryz.ntmps118
 go_upto_region 1 with (refine Aq rfl _ rfl rfl ?_;intro g w1 hB hb1 hg1)
 have bx:=Box.new w1 34 #[.int .i64 0,.int .i32 0,.int .u8 0,.int .u8 0,.int .u8 0,.slice none 0 0,.string ⟨#[]⟩]
 have bb:=hb1.trans (((Below.refl w1.heap.size w1).alloc (Nat.le_refl _) (.cells #[.int .i64 0,.int .i32 0,.int .u8 0,.int .u8 0,.int .u8 0,.slice none 0 0,.string ⟨#[]⟩] 34)).mono hb1.size)
 have hB2:=hB.alloc (.cells #[.int .i64 0,.int .i32 0,.int .u8 0,.int .u8 0,.int .u8 0,.slice none 0 0,.string ⟨#[]⟩] 34)
 have hle:=hb1.size
 have hlt:=hB.lt
 have hRl:w1.heap.size<(w1.alloc (.cells #[.int .i64 0,.int .i32 0,.int .u8 0,.int .u8 0,.int .u8 0,.slice none 0 0,.string ⟨#[]⟩] 34)).heap.size:=by simp
 generalize w1.heap.size=gR at*
 generalize w1.alloc (.cells #[.int .i64 0,.int .i32 0,.int .u8 0,.int .u8 0,.int .u8 0,.slice none 0 0,.string ⟨#[]⟩] 34)=w2 at*
 clear hb1 hB
 have k1:=hB2.c3
 have k2:=hB2.c4
 have k4:=hB2.c6
 have k11:w2.cell? ⟨g,16,none⟩=some (.bool s.org):=hB2.c16
 have HB:=hide bb
 have HX:=hide bx
 have hgw:w.heap.size<=gR:=hle
 have hne:gR≠g:=by omega
 clear bb hlt hle
 have hz:=HZ.out
 rcases ho:s.org with _ | _
 ·rw [ho] at k11 hz
  have hz:(s.row:Int)=z:=by simpa using hz
  rw [hz] at k1
  clear hz
  go_upto_region 4 with fail
  go_region_with (first | (go_at_call 157;refine(FO.out _ (by first | exact hzb | exact hcb) _).mono ?_;rintro e w' ⟨rfl,rfl⟩) | (go_at_call 30;refine(CS.out _ _ (Box.new w2 3 #[.int .i64 (RP.one z),.int .i64 (RP.one (s.col:Nat))]).drew).mono ?_;rintro e w3 ⟨A2,c2,rfl,hc2,hs2,b2⟩;have bx2:=(HX.out.alloc (.cells #[.int .i64 (RP.one z),.int .i64 (RP.one (s.col:Nat))] 3)).drew.below b2 (by simp;omega);have bb2:=HB.out.trans ((((Below.refl w2.heap.size w2).alloc (Nat.le_refl _) (.cells #[.int .i64 (RP.one z),.int .i64 (RP.one (s.col:Nat))] 3)).drew.trans (b2.mono (by simp))).mono HB.out.size);have fr:=bx2.frozen;obtain⟨k0,k1',k2',k3,k4',k5,k6⟩:=Box.seven bx2))
  all_goals
   clear k0 k1' k2' k3 k4' k5 k6 b2 k1 k2 k4 k11
   obtain⟨j0,j1,j2,j3,j4,j5,j6⟩:=Box.seven (Box.Gv bx2 (.int .i64 4) (.int .i32 0) (.int .u8 0) (.int .u8 0) (.int .u8 82) (.slice A2 2 c2) (.string ⟨#[]⟩))
   have bl:=Bt bb2 hgw (.int .i64 4) (.int .i32 0) (.int .u8 0) (.int .u8 0) (.int .u8 82) (.slice A2 2 c2) (.string ⟨#[]⟩)
   have sl:=hs2.Ub (g:=gR) (by simp;omega) (.int .i64 4) (.int .i32 0) (.int .u8 0) (.int .u8 0) (.int .u8 82) (.slice A2 2 c2) (.string ⟨#[]⟩)
   generalize (((((((w3.setCell ⟨gR,0,none⟩ (.int .i64 4)).setCell ⟨gR,1,none⟩ (.int .i32 0)).setCell ⟨gR,2,none⟩ (.int .u8 0)).setCell ⟨gR,3,none⟩ (.int .u8 0)).setCell ⟨gR,4,none⟩ (.int .u8 82)).setCell ⟨gR,5,none⟩ (.slice A2 2 c2)).setCell ⟨gR,6,none⟩ (.string ⟨#[]⟩))=W at*
   go_step
   go_wp2_with fail
   refine bodyPost_ret (v:=.agg #[.int .i64 4,.int .i32 0,.int .u8 0,.int .u8 0,.int .u8 82,.slice A2 2 c2,.string ⟨#[]⟩]) (by simp [results,Tryz.results118,go_sem,j0,j1,j2,j3,j4,j5,j6]) rfl ⟨A2,c2,by rw [HQ.out];rfl,by rw [HQ.out];exact hc2,?_,bl⟩
   rw [HQ.out]
   exact sl.base (by have:=HB.out.size;simp;omega)
 ·rw [ho] at k11 hz
  have hz:(s.row:Int)-(s.top:Int)=z:=by simpa using hz
  have hw:wrap64 ((s.row:Int)-(s.top:Int))=z:=by rw [<- hz];unfold wrap64;omega
  go_upto_region 4 with fail
  try rw [hz]
  clear hz hw
  go_region_with (first | (go_at_call 157;refine(FO.out _ (by first | exact hzb | exact hcb) _).mono ?_;rintro e w' ⟨rfl,rfl⟩) | (go_at_call 30;refine(CS.out _ _ (Box.new w2 3 #[.int .i64 (RP.one z),.int .i64 (RP.one (s.col:Nat))]).drew).mono ?_;rintro e w3 ⟨A2,c2,rfl,hc2,hs2,b2⟩;have bx2:=(HX.out.alloc (.cells #[.int .i64 (RP.one z),.int .i64 (RP.one (s.col:Nat))] 3)).drew.below b2 (by simp;omega);have bb2:=HB.out.trans ((((Below.refl w2.heap.size w2).alloc (Nat.le_refl _) (.cells #[.int .i64 (RP.one z),.int .i64 (RP.one (s.col:Nat))] 3)).drew.trans (b2.mono (by simp))).mono HB.out.size);have fr:=bx2.frozen;obtain⟨k0,k1',k2',k3,k4',k5,k6⟩:=Box.seven bx2))
  all_goals
   clear k0 k1' k2' k3 k4' k5 k6 b2 k1 k2 k4 k11
   obtain⟨j0,j1,j2,j3,j4,j5,j6⟩:=Box.seven (Box.Gv bx2 (.int .i64 4) (.int .i32 0) (.int .u8 0) (.int .u8 0) (.int .u8 82) (.slice A2 2 c2) (.string ⟨#[]⟩))
   have bl:=Bt bb2 hgw (.int .i64 4) (.int .i32 0) (.int .u8 0) (.int .u8 0) (.int .u8 82) (.slice A2 2 c2) (.string ⟨#[]⟩)
   have sl:=hs2.Ub (g:=gR) (by simp;omega) (.int .i64 4) (.int .i32 0) (.int .u8 0) (.int .u8 0) (.int .u8 82) (.slice A2 2 c2) (.string ⟨#[]⟩)
   generalize (((((((w3.setCell ⟨gR,0,none⟩ (.int .i64 4)).setCell ⟨gR,1,none⟩ (.int .i32 0)).setCell ⟨gR,2,none⟩ (.int .u8 0)).setCell ⟨gR,3,none⟩ (.int .u8 0)).setCell ⟨gR,4,none⟩ (.int .u8 82)).setCell ⟨gR,5,none⟩ (.slice A2 2 c2)).setCell ⟨gR,6,none⟩ (.string ⟨#[]⟩))=W at*
   go_step
   go_wp2_with fail
   refine bodyPost_ret (v:=.agg #[.int .i64 4,.int .i32 0,.int .u8 0,.int .u8 0,.int .u8 82,.slice A2 2 c2,.string ⟨#[]⟩]) (by simp [results,Tryz.results118,go_sem,j0,j1,j2,j3,j4,j5,j6]) rfl ⟨A2,c2,by rw [HQ.out];rfl,by rw [HQ.out];exact hc2,?_,bl⟩
   rw [HQ.out]
   exact sl.base (by have:=HB.out.size;simp;omega)
theorem NV (s:SN.Sc) (x:Value) (kd rn pv it fn:Int) (Ae:Option Addr) (n c B:Nat) (tx:ByteArray) (l:List Int) (w:World) (hr:s.row<=60000) (hc:s.col<=60000) (htp:s.top<=60000) (hx:x.oneCell'=true) (hl:Seen w B Ae n (Br l)) (hB:B<=w.heap.size) (hlb: ∀x∈l, -1<=x/\x<=65535) (hM:IW w) (h:IsS w s (.agg (scA x s))):
  Calls Tryz.prog 69 #[.agg (scA x s),.agg #[.int .i64 kd,.int .i32 rn,.int .u8 pv,.int .u8 it,.int .u8 fn,.slice Ae n c,.string tx]] w (iO w (RP.ans s kd pv it fn l)):=by
 have HL:=hide hl
 obtain⟨nn,hnn⟩: ∃nn,RP.first l=nn:=⟨_,rfl⟩
 have hnb:=RP.Ml (fun y hy=>(hlb y hy).2)
 rw [hnn] at hnb
 have AR:=hide (fun w' (hb:Below w.heap.size w w')=>hnn▸Rp hlb▸Ll kd rn pv it fn Ae n c l tx 0 0 0 65535 w' ((hl.below (hb.mono hB)).more (Nat.le_trans hB hb.size)))
 have HM:=hide hM
 have HI:=hide h
 obtain⟨pb,hpb⟩: ∃b,((pv==0)&&(it==0))=b:=⟨_,rfl⟩
 have HPB:=hide hpb
 obtain⟨c5,hc5⟩: ∃b,(pb&&((fn==110)&&(nn==5)))=b:=⟨_,rfl⟩
 have HC5:=hide hc5
 obtain⟨c6,hc6⟩: ∃b,(pb&&((fn==110)&&(nn==6)))=b:=⟨_,rfl⟩
 have HC6:=hide hc6
 obtain⟨c9,hc9⟩: ∃b,(pb&&((fn==99)&&(nn==0)))=b:=⟨_,rfl⟩
 have HC9:=hide hc9
 obtain⟨cp,hcp⟩: ∃b,((pv==63)&&((it==36)&&(fn==112)))=b:=⟨_,rfl⟩
 have HCP:=hide hcp
 have CS:=hide (fun (w':World) g (hb:Box w' g 3 #[.int .i64 0])=>Lu (f:=110) (A:=some ⟨g,0,none⟩) (n:=1) (c:=1) (l:= [0]) (w:=w') [0] 1 (by unfold DK;rw [if_neg (by decide)]) rfl (Seen.Ec hb rfl rfl hb.lt) (by omega))
 have PL:=hide (fun w'=>(show Calls Tryz.prog 118 #[.agg (scA x s)] w' (fun e w''=> ∃A c,e=.returned (.agg #[.int .i64 4,.int .i32 0,.int .u8 0,.int .u8 0,.int .u8 82,.slice A 2 c,.string ⟨#[]⟩])/\2<=c/\FH w'.heap.size w'' A 2 (Br (RP.place s).params)/\Below w'.heap.size w' w'') from Xy s x w' hr hc htp hx))
 have RPT:=hide (fun w' (hb:Below w.heap.size w w')=>Tw s (.agg (scA x s)) nn w' (hM.keep hb) (match h with | ⟨x',e,hg⟩=>⟨x',e,hg.low hb⟩))
 have HA:=hide (show RP.ans s kd pv it fn l=if kd=4 then (if c5 then ⟨4,0,0,0,110, [0], []⟩ else if c6 then RP.place s else if c9 then ⟨4,0,63,0,99, [6], []⟩ else if cp then ⟨4,0,63,36,121, [nn,SN.Dr s nn], []⟩ else RP.no) else RP.no by
  rw [<- hc5, <- hc6, <- hc9, <- hcp, <- hpb, <- hnn]
  unfold RP.ans
  by_cases hk:kd=4
  ·simp only [hk,ne_eq,not_true_eq_false,if_false,if_true,Bool.and_eq_true,beq_iff_eq]
  ·simp only [hk,ne_eq,not_false_eq_true,if_true,if_false])
 clear hl hnn hM h hpb hc5 hc6 hc9 hcp hlb
 rcases hkd:(kd==4) with _ | _
 ·skip
  go_enter Tryz.func69,Tryz.ntmps69
  go_upto_region 1 with (refine Aq rfl _ rfl rfl ?_;intro g w1 hB1 hb1 hg1)
  have hE:=(Box.new w1 34 #[.int .i64 kd,.int .i32 rn,.int .u8 pv,.int .u8 it,.int .u8 fn,.slice Ae n c,.string tx]).alloc (.cells #[.int .i64 0,.int .i32 0,.int .u8 0,.int .u8 0,.int .u8 0,.slice none 0 0,.string ⟨#[]⟩] 34)
  have hR:=Box.new (w1.alloc (.cells #[.int .i64 kd,.int .i32 rn,.int .u8 pv,.int .u8 it,.int .u8 fn,.slice Ae n c,.string tx] 34)) 34 #[.int .i64 0,.int .i32 0,.int .u8 0,.int .u8 0,.int .u8 0,.slice none 0 0,.string ⟨#[]⟩]
  rw [show(w1.alloc (.cells #[.int .i64 kd,.int .i32 rn,.int .u8 pv,.int .u8 it,.int .u8 fn,.slice Ae n c,.string tx] 34)).heap.size=w1.heap.size+1 from by simp] at hR
  have hB2:=(hB1.alloc (.cells #[.int .i64 kd,.int .i32 rn,.int .u8 pv,.int .u8 it,.int .u8 fn,.slice Ae n c,.string tx] 34)).alloc (.cells #[.int .i64 0,.int .i32 0,.int .u8 0,.int .u8 0,.int .u8 0,.slice none 0 0,.string ⟨#[]⟩] 34)
  have b2:=hb1.trans ((((Below.refl w1.heap.size w1).alloc (Nat.le_refl _) (.cells #[.int .i64 kd,.int .i32 rn,.int .u8 pv,.int .u8 it,.int .u8 fn,.slice Ae n c,.string tx] 34)).alloc (by simp) (.cells #[.int .i64 0,.int .i32 0,.int .u8 0,.int .u8 0,.int .u8 0,.slice none 0 0,.string ⟨#[]⟩] 34)).mono hb1.size)
  have hlt:=hB1.lt
  have hle:=hb1.size
  generalize w1.heap.size=gE at*
  obtain⟨gR,hgR⟩: ∃gR,gE+1=gR:=⟨_,rfl⟩
  rw [hgR] at hR⊢
  have hgw:w.heap.size<=gR:=by omega
  have hne:gR≠g:=by omega
  have hne':gE≠gR:=by omega
  clear hB1 hb1 hgR hlt hle
  generalize (w1.alloc (.cells #[.int .i64 kd,.int .i32 rn,.int .u8 pv,.int .u8 it,.int .u8 fn,.slice Ae n c,.string tx] 34)).alloc (.cells #[.int .i64 0,.int .i32 0,.int .u8 0,.int .u8 0,.int .u8 0,.slice none 0 0,.string ⟨#[]⟩] 34)=w2 at*
  obtain⟨e0,e1,e2,e3,e4,e5,e6⟩:=Box.seven hE
  go_wp2_with fail
  refine(AR.out _ b2).mono ?_
  rintro e w3 ⟨rfl,b3⟩
  have HB3:=hide (hB2.below b3 hB2.lt)
  have HE3:=hide (hE.below b3 hE.lt)
  have HR3:=hide (hR.below b3 hR.lt)
  have LO3:=hide (b2.trans (b3.mono b2.size))
  clear e0 e1 e2 e3 e4 e5 e6 b3 b2 hB2 hE hR
  obtain⟨e0,e1,e2,e3,e4,e5,e6⟩:=Box.seven HE3.out
  have fr:=HR3.out.frozen
  obtain⟨k0,k1,k2,k3,k4,k5,k6⟩:=Box.seven HR3.out
  have HAX:=hide (show RP.ans s kd pv it fn l=RP.no by rw [HA.out,if_neg (fun e=>by rw [e] at hkd;exact absurd hkd (by decide))])
  clear HA
  go_upto_region 2 with fail
  go_cut [6] from 6 to 16 (fun u wx=>u=.bool pb/\wx=w3)
  case first=>
   rcases q0:(pv==0) with _ | _
   ·skip
    go_wp2_with fail
    go_meet
    exact⟨congrArg Value.bool (by rw [<- HPB.out,q0];simp),rfl⟩
   ·skip
    rcases q1:(it==0) with _ | _
    ·skip
     go_wp2_with fail
     go_meet
     exact⟨congrArg Value.bool (by rw [<- HPB.out,q0,q1];simp),rfl⟩
    ·skip
     go_wp2_with fail
     go_meet
     exact⟨congrArg Value.bool (by rw [<- HPB.out,q0,q1];simp),rfl⟩
  case rest=>
   obtain⟨rfl,hw⟩:=hcut
   subst hw
   rename World=>w3
   go_wp2_with fail
   obtain⟨j0,j1,j2,j3,j4,j5,j6⟩:=Box.seven (Box.Gv HR3.out (.int .i64 0) (.int .i32 0) (.int .u8 0) (.int .u8 0) (.int .u8 0) (.slice none 0 0) (.string ⟨#[]⟩))
   have bl:=Bt LO3.out hgw (.int .i64 0) (.int .i32 0) (.int .u8 0) (.int .u8 0) (.int .u8 0) (.slice none 0 0) (.string ⟨#[]⟩)
   generalize (((((((w3.setCell ⟨gR,0,none⟩ (.int .i64 0)).setCell ⟨gR,1,none⟩ (.int .i32 0)).setCell ⟨gR,2,none⟩ (.int .u8 0)).setCell ⟨gR,3,none⟩ (.int .u8 0)).setCell ⟨gR,4,none⟩ (.int .u8 0)).setCell ⟨gR,5,none⟩ (.slice none 0 0)).setCell ⟨gR,6,none⟩ (.string ⟨#[]⟩))=W at*
   refine bodyPost_ret (v:=.agg #[.int .i64 0,.int .i32 0,.int .u8 0,.int .u8 0,.int .u8 0,.slice none 0 0,.string ⟨#[]⟩]) (by simp [results,Tryz.results69,go_sem,j0,j1,j2,j3,j4,j5,j6]) rfl ⟨none,0,by rw [HAX.out];rfl,by rw [HAX.out];exact Nat.le_refl _,by rw [HAX.out];exact FH.IV,bl⟩
 ·obtain rfl:kd=4:=by simpa using hkd
  go_enter Tryz.func69,Tryz.ntmps69
  go_upto_region 1 with (refine Aq rfl _ rfl rfl ?_;intro g w1 hB1 hb1 hg1)
  have hE:=(Box.new w1 34 #[.int .i64 4,.int .i32 rn,.int .u8 pv,.int .u8 it,.int .u8 fn,.slice Ae n c,.string tx]).alloc (.cells #[.int .i64 0,.int .i32 0,.int .u8 0,.int .u8 0,.int .u8 0,.slice none 0 0,.string ⟨#[]⟩] 34)
  have hR:=Box.new (w1.alloc (.cells #[.int .i64 4,.int .i32 rn,.int .u8 pv,.int .u8 it,.int .u8 fn,.slice Ae n c,.string tx] 34)) 34 #[.int .i64 0,.int .i32 0,.int .u8 0,.int .u8 0,.int .u8 0,.slice none 0 0,.string ⟨#[]⟩]
  rw [show(w1.alloc (.cells #[.int .i64 4,.int .i32 rn,.int .u8 pv,.int .u8 it,.int .u8 fn,.slice Ae n c,.string tx] 34)).heap.size=w1.heap.size+1 from by simp] at hR
  have hB2:=(hB1.alloc (.cells #[.int .i64 4,.int .i32 rn,.int .u8 pv,.int .u8 it,.int .u8 fn,.slice Ae n c,.string tx] 34)).alloc (.cells #[.int .i64 0,.int .i32 0,.int .u8 0,.int .u8 0,.int .u8 0,.slice none 0 0,.string ⟨#[]⟩] 34)
  have b2:=hb1.trans ((((Below.refl w1.heap.size w1).alloc (Nat.le_refl _) (.cells #[.int .i64 4,.int .i32 rn,.int .u8 pv,.int .u8 it,.int .u8 fn,.slice Ae n c,.string tx] 34)).alloc (by simp) (.cells #[.int .i64 0,.int .i32 0,.int .u8 0,.int .u8 0,.int .u8 0,.slice none 0 0,.string ⟨#[]⟩] 34)).mono hb1.size)
  have hlt:=hB1.lt
  have hle:=hb1.size
  generalize w1.heap.size=gE at*
  obtain⟨gR,hgR⟩: ∃gR,gE+1=gR:=⟨_,rfl⟩
  rw [hgR] at hR⊢
  have hgw:w.heap.size<=gR:=by omega
  have hne:gR≠g:=by omega
  have hne':gE≠gR:=by omega
  clear hB1 hb1 hgR hlt hle
  generalize (w1.alloc (.cells #[.int .i64 4,.int .i32 rn,.int .u8 pv,.int .u8 it,.int .u8 fn,.slice Ae n c,.string tx] 34)).alloc (.cells #[.int .i64 0,.int .i32 0,.int .u8 0,.int .u8 0,.int .u8 0,.slice none 0 0,.string ⟨#[]⟩] 34)=w2 at*
  obtain⟨e0,e1,e2,e3,e4,e5,e6⟩:=Box.seven hE
  go_wp2_with fail
  refine(AR.out _ b2).mono ?_
  rintro e w3 ⟨rfl,b3⟩
  have HB3:=hide (hB2.below b3 hB2.lt)
  have HE3:=hide (hE.below b3 hE.lt)
  have HR3:=hide (hR.below b3 hR.lt)
  have LO3:=hide (b2.trans (b3.mono b2.size))
  clear e0 e1 e2 e3 e4 e5 e6 b3 b2 hB2 hE hR
  obtain⟨e0,e1,e2,e3,e4,e5,e6⟩:=Box.seven HE3.out
  have fr:=HR3.out.frozen
  obtain⟨k0,k1,k2,k3,k4,k5,k6⟩:=Box.seven HR3.out
  go_upto_region 2 with fail
  go_cut [6] from 6 to 16 (fun u wx=>u=.bool pb/\wx=w3)
  case first=>
   rcases q0:(pv==0) with _ | _
   ·skip
    go_wp2_with fail
    go_meet
    exact⟨congrArg Value.bool (by rw [<- HPB.out,q0];simp),rfl⟩
   ·skip
    rcases q1:(it==0) with _ | _
    ·skip
     go_wp2_with fail
     go_meet
     exact⟨congrArg Value.bool (by rw [<- HPB.out,q0,q1];simp),rfl⟩
    ·skip
     go_wp2_with fail
     go_meet
     exact⟨congrArg Value.bool (by rw [<- HPB.out,q0,q1];simp),rfl⟩
  case rest=>
   obtain⟨rfl,hw⟩:=hcut
   subst hw
   rename World=>w3
   go_upto_region 5 with fail
   go_cut [22] from 22 to 32 (fun u wx=>u=.bool c5/\wx=w3)
   case first=>
    cases pb with
    | false=>
     go_wp2_with fail
     go_meet
     exact⟨congrArg Value.bool (by rw [<- HC5.out];simp),rfl⟩
    | true=>
     rcases q1:(fn==110) with _ | _
     ·skip
      go_wp2_with fail
      go_meet
      exact⟨congrArg Value.bool (by rw [<- HC5.out,q1];simp),rfl⟩
     ·skip
      rcases q2:(nn==5) with _ | _
      ·skip
       go_wp2_with fail
       go_meet
       exact⟨congrArg Value.bool (by rw [<- HC5.out,q1,q2];simp),rfl⟩
      ·skip
       go_wp2_with fail
       go_meet
       exact⟨congrArg Value.bool (by rw [<- HC5.out,q1,q2];simp),rfl⟩
   case rest=>
    obtain⟨rfl,hw⟩:=hcut
    subst hw
    rename World=>w3
    cases c5 with
    | true=>
     have HAX:=hide (show RP.ans s 4 pv it fn l=⟨4,0,0,0,110, [0], []⟩ from HA.out.trans (by simp))
     clear HA HC5 HC6 HC9 HCP HPB
     go_wp2_with fail
     refine(CS.out _ _ (Box.new w3 3 #[.int .i64 0])).mono ?_
     rintro e w4 ⟨A4,c4,rfl,hc4,r4,b4⟩
     have HR4:=(HR3.out.alloc (.cells #[.int .i64 0] 3)).below b4 (by have:=HR3.out.lt;simp;omega)
     have LO4:=LO3.out.trans ((((Below.refl w3.heap.size w3).alloc (Nat.le_refl _) (.cells #[.int .i64 0] 3)).trans (b4.mono (by simp))).mono LO3.out.size)
     clear k0 k1 k2 k3 k4 k5 k6 fr
     have fr:=HR4.frozen
     obtain⟨k0,k1,k2,k3,k4,k5,k6⟩:=Box.seven HR4
     go_wp2_with fail
     obtain⟨j0,j1,j2,j3,j4,j5,j6⟩:=Box.seven (Box.Gv HR4 (.int .i64 4) (.int .i32 0) (.int .u8 0) (.int .u8 0) (.int .u8 110) (.slice A4 1 c4) (.string ⟨#[]⟩))
     have bl:=Bt LO4 hgw (.int .i64 4) (.int .i32 0) (.int .u8 0) (.int .u8 0) (.int .u8 110) (.slice A4 1 c4) (.string ⟨#[]⟩)
     have sl:=(r4.Ub (g:=gR) (by have:=HR3.out.lt;simp;omega) (.int .i64 4) (.int .i32 0) (.int .u8 0) (.int .u8 0) (.int .u8 110) (.slice A4 1 c4) (.string ⟨#[]⟩)).base (B':=w.heap.size) (by have:=LO3.out.size;simp;omega)
     generalize (((((((w4.setCell ⟨gR,0,none⟩ (.int .i64 4)).setCell ⟨gR,1,none⟩ (.int .i32 0)).setCell ⟨gR,2,none⟩ (.int .u8 0)).setCell ⟨gR,3,none⟩ (.int .u8 0)).setCell ⟨gR,4,none⟩ (.int .u8 110)).setCell ⟨gR,5,none⟩ (.slice A4 1 c4)).setCell ⟨gR,6,none⟩ (.string ⟨#[]⟩))=W at*
     refine bodyPost_ret (v:=.agg #[.int .i64 4,.int .i32 0,.int .u8 0,.int .u8 0,.int .u8 110,.slice A4 1 c4,.string ⟨#[]⟩]) (by simp [results,Tryz.results69,go_sem,j0,j1,j2,j3,j4,j5,j6]) rfl ⟨_,_,by rw [HAX.out];rfl,by rw [HAX.out];exact hc4,by rw [HAX.out];exact sl,bl⟩
    | false=>
     go_upto_region 7 with fail
     go_cut [35] from 35 to 45 (fun u wx=>u=.bool c6/\wx=w3)
     case first=>
      cases pb with
      | false=>
       go_wp2_with fail
       go_meet
       exact⟨congrArg Value.bool (by rw [<- HC6.out];simp),rfl⟩
      | true=>
       rcases q1:(fn==110) with _ | _
       ·skip
        go_wp2_with fail
        go_meet
        exact⟨congrArg Value.bool (by rw [<- HC6.out,q1];simp),rfl⟩
       ·skip
        rcases q2:(nn==6) with _ | _
        ·skip
         go_wp2_with fail
         go_meet
         exact⟨congrArg Value.bool (by rw [<- HC6.out,q1,q2];simp),rfl⟩
        ·skip
         go_wp2_with fail
         go_meet
         exact⟨congrArg Value.bool (by rw [<- HC6.out,q1,q2];simp),rfl⟩
     case rest=>
      obtain⟨rfl,hw⟩:=hcut
      subst hw
      rename World=>w3
      cases c6 with
      | true=>
       have HAX:=hide (show RP.ans s 4 pv it fn l=RP.place s from HA.out.trans (by simp))
       clear HA HC5 HC6 HC9 HCP HPB
       go_wp2_with (refine AU HB3.out rfl _ rfl rfl ?_)
       refine(PL.out _).mono ?_
       rintro e w4 ⟨A4,c4,rfl,hc4,r4,b4⟩
       have HR4:=HR3.out.below b4 HR3.out.lt
       have LO4:=LO3.out.trans (b4.mono LO3.out.size)
       clear k0 k1 k2 k3 k4 k5 k6 fr
       have fr:=HR4.frozen
       obtain⟨k0,k1,k2,k3,k4,k5,k6⟩:=Box.seven HR4
       go_wp2_with fail
       obtain⟨j0,j1,j2,j3,j4,j5,j6⟩:=Box.seven (Box.Gv HR4 (.int .i64 4) (.int .i32 0) (.int .u8 0) (.int .u8 0) (.int .u8 82) (.slice A4 2 c4) (.string ⟨#[]⟩))
       have bl:=Bt LO4 hgw (.int .i64 4) (.int .i32 0) (.int .u8 0) (.int .u8 0) (.int .u8 82) (.slice A4 2 c4) (.string ⟨#[]⟩)
       have sl:=(r4.Ub (g:=gR) (by have:=HR3.out.lt;simp;omega) (.int .i64 4) (.int .i32 0) (.int .u8 0) (.int .u8 0) (.int .u8 82) (.slice A4 2 c4) (.string ⟨#[]⟩)).base (B':=w.heap.size) (by have:=LO3.out.size;simp;omega)
       generalize (((((((w4.setCell ⟨gR,0,none⟩ (.int .i64 4)).setCell ⟨gR,1,none⟩ (.int .i32 0)).setCell ⟨gR,2,none⟩ (.int .u8 0)).setCell ⟨gR,3,none⟩ (.int .u8 0)).setCell ⟨gR,4,none⟩ (.int .u8 82)).setCell ⟨gR,5,none⟩ (.slice A4 2 c4)).setCell ⟨gR,6,none⟩ (.string ⟨#[]⟩))=W at*
       refine bodyPost_ret (v:=.agg #[.int .i64 4,.int .i32 0,.int .u8 0,.int .u8 0,.int .u8 82,.slice A4 2 c4,.string ⟨#[]⟩]) (by simp [results,Tryz.results69,go_sem,j0,j1,j2,j3,j4,j5,j6]) rfl ⟨_,_,by rw [HAX.out];rfl,by rw [HAX.out];exact hc4,by rw [HAX.out];exact sl,bl⟩
      | false=>
       go_upto_region 9 with fail
       go_cut [48] from 48 to 58 (fun u wx=>u=.bool c9/\wx=w3)
       case first=>
        cases pb with
        | false=>
         go_wp2_with fail
         go_meet
         exact⟨congrArg Value.bool (by rw [<- HC9.out];simp),rfl⟩
        | true=>
         rcases q1:(fn==99) with _ | _
         ·skip
          go_wp2_with fail
          go_meet
          exact⟨congrArg Value.bool (by rw [<- HC9.out,q1];simp),rfl⟩
         ·skip
          rcases q2:(nn==0) with _ | _
          ·skip
           go_wp2_with fail
           go_meet
           exact⟨congrArg Value.bool (by rw [<- HC9.out,q1,q2];simp),rfl⟩
          ·skip
           go_wp2_with fail
           go_meet
           exact⟨congrArg Value.bool (by rw [<- HC9.out,q1,q2];simp),rfl⟩
       case rest=>
        obtain⟨rfl,hw⟩:=hcut
        subst hw
        rename World=>w3
        cases c9 with
        | true=>
         have HAX:=hide (show RP.ans s 4 pv it fn l=⟨4,0,63,0,99, [6], []⟩ from HA.out.trans (by simp))
         clear HA HC5 HC6 HC9 HCP HPB
         go_wp2_with fail
         refine(LW 0 99 _ 1 1 _).mono ?_
         rintro e w4 ⟨rfl,b4⟩
         have r4:=(FH.Ec (Box.new w3 3 #[.int .i64 6]) rfl rfl).below b4
         have HR4:=(HR3.out.alloc (.cells #[.int .i64 6] 3)).below b4 (by have:=HR3.out.lt;simp;omega)
         have LO4:=LO3.out.trans ((((Below.refl w3.heap.size w3).alloc (Nat.le_refl _) (.cells #[.int .i64 6] 3)).trans (b4.mono (by simp))).mono LO3.out.size)
         clear k0 k1 k2 k3 k4 k5 k6 fr
         have fr:=HR4.frozen
         obtain⟨k0,k1,k2,k3,k4,k5,k6⟩:=Box.seven HR4
         go_wp2_with fail
         obtain⟨j0,j1,j2,j3,j4,j5,j6⟩:=Box.seven (Box.Gv HR4 (.int .i64 4) (.int .i32 0) (.int .u8 63) (.int .u8 0) (.int .u8 99) (.slice (some ⟨w3.heap.size,0,none⟩) 1 1) (.string ⟨#[]⟩))
         have bl:=Bt LO4 hgw (.int .i64 4) (.int .i32 0) (.int .u8 63) (.int .u8 0) (.int .u8 99) (.slice (some ⟨w3.heap.size,0,none⟩) 1 1) (.string ⟨#[]⟩)
         have sl:=(r4.Ub (g:=gR) (by have:=HR3.out.lt;simp;omega) (.int .i64 4) (.int .i32 0) (.int .u8 63) (.int .u8 0) (.int .u8 99) (.slice (some ⟨w3.heap.size,0,none⟩) 1 1) (.string ⟨#[]⟩)).base (B':=w.heap.size) (by have:=LO3.out.size;simp;omega)
         generalize (((((((w4.setCell ⟨gR,0,none⟩ (.int .i64 4)).setCell ⟨gR,1,none⟩ (.int .i32 0)).setCell ⟨gR,2,none⟩ (.int .u8 63)).setCell ⟨gR,3,none⟩ (.int .u8 0)).setCell ⟨gR,4,none⟩ (.int .u8 99)).setCell ⟨gR,5,none⟩ (.slice (some ⟨w3.heap.size,0,none⟩) 1 1)).setCell ⟨gR,6,none⟩ (.string ⟨#[]⟩))=W at*
         refine bodyPost_ret (v:=.agg #[.int .i64 4,.int .i32 0,.int .u8 63,.int .u8 0,.int .u8 99,.slice (some ⟨w3.heap.size,0,none⟩) 1 1,.string ⟨#[]⟩]) (by simp [results,Tryz.results69,go_sem,j0,j1,j2,j3,j4,j5,j6]) rfl ⟨_,_,by rw [HAX.out];rfl,by rw [HAX.out];exact Nat.le_refl _,by rw [HAX.out];exact sl,bl⟩
        | false=>
         go_upto_region 11 with fail
         go_cut [61] from 61 to 74 (fun u wx=>u=.bool cp/\wx=w3)
         case first=>
          rcases q0:(pv==63) with _ | _
          ·skip
           go_wp2_with fail
           go_meet
           exact⟨congrArg Value.bool (by rw [<- HCP.out,q0];simp),rfl⟩
          ·skip
           rcases q1:(it==36) with _ | _
           ·skip
            go_wp2_with fail
            go_meet
            exact⟨congrArg Value.bool (by rw [<- HCP.out,q0,q1];simp),rfl⟩
           ·skip
            rcases q2:(fn==112) with _ | _
            ·skip
             go_wp2_with fail
             go_meet
             exact⟨congrArg Value.bool (by rw [<- HCP.out,q0,q1,q2];simp),rfl⟩
            ·skip
             go_wp2_with fail
             go_meet
             exact⟨congrArg Value.bool (by rw [<- HCP.out,q0,q1,q2];simp),rfl⟩
         case rest=>
          obtain⟨rfl,hw⟩:=hcut
          subst hw
          rename World=>w3
          cases cp with
          | true=>
           have HAX:=hide (show RP.ans s 4 pv it fn l=⟨4,0,63,36,121, [nn,SN.Dr s nn], []⟩ from HA.out.trans (by simp))
           clear HA HC5 HC6 HC9 HCP HPB
           go_wp2_with (refine AU HB3.out rfl _ rfl rfl ?_)
           refine(RPT.out _ LO3.out).mono ?_
           rintro e w5 ⟨rfl,b5⟩
           have HR5:=hide (HR3.out.below b5 HR3.out.lt)
           have LO5:=hide (LO3.out.trans (b5.mono LO3.out.size))
           clear k0 k1 k2 k3 k4 k5 k6 fr HR3 LO3 b5 HB3 HE3 e0 e1 e2 e3 e4 e5 e6
           rename_i w3x
           go_wp2_with fail
           refine(LW 36 121 _ 2 2 _).mono ?_
           rintro e w4 ⟨rfl,b4⟩
           have r4:=(FH.Ec (Box.new w5 3 #[.int .i64 nn,.int .i64 (SN.Dr s nn)]) rfl rfl).below b4
           have HR4:=(HR5.out.alloc (.cells #[.int .i64 nn,.int .i64 (SN.Dr s nn)] 3)).below b4 (by have:=HR5.out.lt;simp;omega)
           have LO4:=LO5.out.trans ((((Below.refl w5.heap.size w5).alloc (Nat.le_refl _) (.cells #[.int .i64 nn,.int .i64 (SN.Dr s nn)] 3)).trans (b4.mono (by simp))).mono LO5.out.size)
           have fr:=HR4.frozen
           obtain⟨k0,k1,k2,k3,k4,k5,k6⟩:=Box.seven HR4
           go_wp2_with fail
           obtain⟨j0,j1,j2,j3,j4,j5,j6⟩:=Box.seven (Box.Gv HR4 (.int .i64 4) (.int .i32 0) (.int .u8 63) (.int .u8 36) (.int .u8 121) (.slice (some ⟨w5.heap.size,0,none⟩) 2 2) (.string ⟨#[]⟩))
           have bl:=Bt LO4 hgw (.int .i64 4) (.int .i32 0) (.int .u8 63) (.int .u8 36) (.int .u8 121) (.slice (some ⟨w5.heap.size,0,none⟩) 2 2) (.string ⟨#[]⟩)
           have sl:=(r4.Ub (g:=gR) (by have:=HR5.out.lt;simp;omega) (.int .i64 4) (.int .i32 0) (.int .u8 63) (.int .u8 36) (.int .u8 121) (.slice (some ⟨w5.heap.size,0,none⟩) 2 2) (.string ⟨#[]⟩)).base (B':=w.heap.size) (by have:=LO5.out.size;simp;omega)
           generalize (((((((w4.setCell ⟨gR,0,none⟩ (.int .i64 4)).setCell ⟨gR,1,none⟩ (.int .i32 0)).setCell ⟨gR,2,none⟩ (.int .u8 63)).setCell ⟨gR,3,none⟩ (.int .u8 36)).setCell ⟨gR,4,none⟩ (.int .u8 121)).setCell ⟨gR,5,none⟩ (.slice (some ⟨w5.heap.size,0,none⟩) 2 2)).setCell ⟨gR,6,none⟩ (.string ⟨#[]⟩))=W at*
           refine bodyPost_ret (v:=.agg #[.int .i64 4,.int .i32 0,.int .u8 63,.int .u8 36,.int .u8 121,.slice (some ⟨w5.heap.size,0,none⟩) 2 2,.string ⟨#[]⟩]) (by simp [results,Tryz.results69,go_sem,j0,j1,j2,j3,j4,j5,j6]) rfl ⟨_,_,by rw [HAX.out];rfl,by rw [HAX.out];exact Nat.le_refl _,by rw [HAX.out];exact sl,bl⟩
          | false=>
           have HAX:=hide (show RP.ans s 4 pv it fn l=RP.no from HA.out.trans (by simp))
           go_wp2_with fail
           obtain⟨j0,j1,j2,j3,j4,j5,j6⟩:=Box.seven (Box.Gv HR3.out (.int .i64 0) (.int .i32 0) (.int .u8 0) (.int .u8 0) (.int .u8 0) (.slice none 0 0) (.string ⟨#[]⟩))
           have bl:=Bt LO3.out hgw (.int .i64 0) (.int .i32 0) (.int .u8 0) (.int .u8 0) (.int .u8 0) (.slice none 0 0) (.string ⟨#[]⟩)
           generalize (((((((w3.setCell ⟨gR,0,none⟩ (.int .i64 0)).setCell ⟨gR,1,none⟩ (.int .i32 0)).setCell ⟨gR,2,none⟩ (.int .u8 0)).setCell ⟨gR,3,none⟩ (.int .u8 0)).setCell ⟨gR,4,none⟩ (.int .u8 0)).setCell ⟨gR,5,none⟩ (.slice none 0 0)).setCell ⟨gR,6,none⟩ (.string ⟨#[]⟩))=W at*
           refine bodyPost_ret (v:=.agg #[.int .i64 0,.int .i32 0,.int .u8 0,.int .u8 0,.int .u8 0,.slice none 0 0,.string ⟨#[]⟩]) (by simp [results,Tryz.results69,go_sem,j0,j1,j2,j3,j4,j5,j6]) rfl ⟨none,0,by rw [HAX.out];rfl,by rw [HAX.out];exact Nat.le_refl _,by rw [HAX.out];exact FH.IV,bl⟩
theorem Rq (s:SN.Sc) (k p i f:Int) (l:List Int) (h1:s.row<=60000) (h2:s.col<=60000) (hl: ∀x∈l,x<=65535):PA.CU (printed [RP.ans s k p i f l])=RP.said s k p i f l:=by
 rcases RP.Mq s k p i f l h1 h2 hl with ⟨a,b,_⟩ | ⟨a,b⟩
 ·simp [printed,PA.CU,a,b]
 ·simp [printed,PA.CU,a,b]
theorem Uc (s:SN.Sc) (x:Value) (kd rn pv it fn:Int) (Ae:Option Addr) (n c B:Nat) (tx:ByteArray) (l:List Int) (w:World) (bs:List Int) (m:Nat) (hbs:RP.said s kd pv it fn l=bs) (hm:bs.length=m) (hr:s.row<=60000) (hc:s.col<=60000) (htp:s.top<=60000) (hx:x.oneCell'=true) (hl:Seen w B Ae n (Br l)) (hB:B<=w.heap.size) (hlb: ∀x∈l, -1<=x/\x<=65535) (hM:IW w) (hT:KO w) (h:IsS w s (.agg (scA x s))):
  Calls Tryz.prog 31 #[.agg (scA x s),.agg #[.int .i64 kd,.int .i32 rn,.int .u8 pv,.int .u8 it,.int .u8 fn,.slice Ae n c,.string tx]] w (iM w m (u8s bs)):=by
 have AN:=hide (fun (w':World) (hb:Below w.heap.size w w')=>NV s x kd rn pv it fn Ae n c B tx l w' hr hc htp hx (hl.below (hb.mono hB)) (Nat.le_trans hB hb.size) hlb (hM.keep hb) (match h with | ⟨x',e,hg⟩=>⟨x',e,hg.low hb⟩))
 have HT:=hide hT
 have HBS:=hide ((Rq s kd pv it fn l hr hc (fun y hy=>(hlb y hy).2)).trans hbs)
 obtain⟨ev,hev⟩: ∃ev,RP.ans s kd pv it fn l=ev:=⟨_,rfl⟩
 have hfm:=RP.Qr s kd pv it fn l
 rw [hev] at AN HBS hfm
 clear hl hB hM hT h hev hlb hbs
 obtain⟨ek,er,ep,ei,ef,el,et⟩:=ev
 obtain⟨h0,h1,h2,h3⟩:=hfm
 simp only at h0 h1 h2 h3
 subst h0 h1
 have HM:=hide hm
 obtain⟨en,hen⟩: ∃en,el.length=en:=⟨_,rfl⟩
 have HEN:=hide hen
 rw [hen] at h3
 clear hm hen
 go_enter Tryz.func31,Tryz.ntmps31
 go_upto_region 1 with (refine Aq rfl _ rfl rfl ?_;intro g w1 hB1 hb1 hg1)
 have hE:=Box.new w1 34 #[.int .i64 kd,.int .i32 rn,.int .u8 pv,.int .u8 it,.int .u8 fn,.slice Ae n c,.string tx]
 have hB2:=hB1.alloc (.cells #[.int .i64 kd,.int .i32 rn,.int .u8 pv,.int .u8 it,.int .u8 fn,.slice Ae n c,.string tx] 34)
 have b2:=hb1.trans (((Below.refl w1.heap.size w1).alloc (Nat.le_refl _) (.cells #[.int .i64 kd,.int .i32 rn,.int .u8 pv,.int .u8 it,.int .u8 fn,.slice Ae n c,.string tx] 34)).mono hb1.size)
 generalize w1.heap.size=gE at*
 generalize w1.alloc (.cells #[.int .i64 kd,.int .i32 rn,.int .u8 pv,.int .u8 it,.int .u8 fn,.slice Ae n c,.string tx] 34)=w2 at*
 have HB2:=hide hB2
 have LO2:=hide b2
 obtain⟨e0,e1,e2,e3,e4,e5,e6⟩:=Box.seven hE
 clear hB1 hb1 hB2 b2 hE
 go_wp2_with (refine AU HB2.out rfl _ rfl rfl ?_)
 refine(AN.out _ LO2.out).mono ?_
 rintro e w4 ⟨A4,c4,rfl,hc4,r4,b4⟩
 simp only at hc4 r4⊢
 rw [HEN.out] at hc4 r4⊢
 have LO4:=hide (LO2.out.trans (b4.mono LO2.out.size))
 have HR4:=hide r4
 clear e0 e1 e2 e3 e4 e5 e6 b4 r4
 go_wp2_with fail
 refine(ZH [⟨ek,0,ep,ei,ef,el, []⟩] bs m HBS.out HM.out rfl (Q6 (n:=1) (M:= [(⟨ek,0,ep,ei,ef,el, []⟩,.slice A4 en c4)]) (Box.fresh (by simp)) (by simp [Fg,Fe];rfl) rfl (dU HEN.out ((HR4.out.1.alloc (Nat.le_refl _) _).more (by simp)) (by omega))) (ZI ⟨h2,by simp⟩) (by omega) (HT.out.keep (LO4.out.alloc LO4.out.size _))).mono ?_
 rintro e w5 ⟨A5,c5,rfl,hc5,h5,b5⟩
 have LO5:=hide (LO4.out.trans ((((Below.refl w4.heap.size w4).alloc (Nat.le_refl _) _).trans (b5.mono (by simp))).mono LO4.out.size))
 go_wp2_with fail
 go_ret
 exact⟨A5,c5,rfl,hc5,h5,LO5.out⟩
def RP.Z:SN.Sc:=⟨PG.newG 0 0 PG.plain,0,0,false,0,0,(0,0,0),0,0,0,0,false,false,false,false,false,⟨0,0,(0,0,0),0,0,0,false⟩⟩
theorem RP.isZ (w:World):IsS w RP.Z (.agg (scA (.slice none 0 0) RP.Z)):=⟨_,rfl,_,rfl,World.ownsRow_nil _ _ _ _⟩
theorem Rs (kd rn pv it fn:Int) (Ae:Option Addr) (n c B:Nat) (tx:ByteArray) (l:List Int) (w:World) (b:Bool) (hb:PA.Bd (RP.ans RP.Z kd pv it fn l)=b) (hl:Seen w B Ae n (Br l)) (hB:B<=w.heap.size) (hlb: ∀x∈l, -1<=x/\x<=65535) (hM:IW w):
  Calls Tryz.prog 70 #[.agg #[.int .i64 kd,.int .i32 rn,.int .u8 pv,.int .u8 it,.int .u8 fn,.slice Ae n c,.string tx]] w fun e w'=>e=.returned (.bool b)/\Below w.heap.size w w':=by
 have AN:=hide (fun (w':World) (hb:Below w.heap.size w w')=>NV RP.Z (.slice none 0 0) kd rn pv it fn Ae n c B tx l w' (Nat.zero_le _) (Nat.zero_le _) (Nat.zero_le _) rfl (hl.below (hb.mono hB)) (Nat.le_trans hB hb.size) hlb (hM.keep hb) (RP.isZ w'))
 obtain⟨ev,hev⟩: ∃ev,RP.ans RP.Z kd pv it fn l=ev:=⟨_,rfl⟩
 have hfm:=RP.Qr RP.Z kd pv it fn l
 rw [hev] at AN hfm hb
 have HBB:=hide hb
 clear hl hB hM hev hlb hb
 obtain⟨ek,er,ep,ei,ef,el,et⟩:=ev
 obtain⟨h0,h1,h2,h3⟩:=hfm
 simp only at h0 h1 h2 h3
 subst h0 h1
 obtain⟨en,hen⟩: ∃en,el.length=en:=⟨_,rfl⟩
 have HEN:=hide hen
 rw [hen] at h3
 clear hen
 have hE:=Box.new w 34 #[.int .i64 kd,.int .i32 rn,.int .u8 pv,.int .u8 it,.int .u8 fn,.slice Ae n c,.string tx]
 have b2:=(Below.refl w.heap.size w).alloc (Nat.le_refl _) (.cells #[.int .i64 kd,.int .i32 rn,.int .u8 pv,.int .u8 it,.int .u8 fn,.slice Ae n c,.string tx] 34)
 go_enter Tryz.func70,Tryz.ntmps70
 go_upto_region 1 with fail
 generalize w.alloc (.cells #[.int .i64 kd,.int .i32 rn,.int .u8 pv,.int .u8 it,.int .u8 fn,.slice Ae n c,.string tx] 34)=w2 at*
 have LO2:=hide b2
 obtain⟨e0,e1,e2,e3,e4,e5,e6⟩:=Box.seven hE
 clear b2 hE
 go_wp2_with fail
 refine(AN.out _ LO2.out).mono ?_
 rintro e w4 ⟨A4,c4,rfl,hc4,r4,b4⟩
 simp only at hc4 r4⊢
 rw [HEN.out] at hc4 r4⊢
 have LO4:=hide (LO2.out.trans (b4.mono LO2.out.size))
 have HR4:=hide r4
 clear e0 e1 e2 e3 e4 e5 e6 b4 r4
 go_wp2_with fail
 refine(LM ek 0 ep ei ef A4 en c4 el [] w4 HR4.out.1 (by omega) h2 (by simp)).mono ?_
 rw [HBB.out]
 rintro e w5 ⟨rfl,b5⟩
 have LO5:=hide (LO4.out.trans (b5.mono LO4.out.size))
 go_wp2_with fail
 go_ret
 exact⟨rfl,LO5.out⟩
end Go.Proofs.YtoaabebgmdbjeaaGreatDoor
namespace Go.Proofs.YtoaabebgmdbjeaaGreatDoor
open Go.RowKit
namespace RP
def saidE (s:SN.Sc) (e:PA.Ev):List Int:=said s e.kind e.priv e.inter e.final e.params
def outs:SN.Sc->List PA.Ev->List Int
 | _, [] => []
 | s,e::l=>saidE s e++outs (SN.Rc s e) l
theorem Oo (s:SN.Sc) (l:List PA.Ev) (e:PA.Ev):outs s (l++ [e])=outs s l++saidE (SN.Bf s l) e:=by
 induction l generalizing s with
 | nil=>simp [outs,SN.XO]
 | cons a l ih=>rw [List.cons_append,outs,ih,outs,List.append_assoc,SN.UF]
def asks (e:PA.Ev):Bool:=PA.Bd (ans Z e.kind e.priv e.inter e.final e.params)
theorem NY {s:SN.Sc} (h:SN.Ad s):s.row<=60000/\s.col<=60000/\s.top<=60000:=by
 have h1:=h.row
 have h2:=h.col
 have h3:=h.bot
 have h4:=h.top
 have h5:=h.g.2.1
 have h6:=h.g.2.2.2.1
 omega
theorem Xz {s:SN.Sc} {e:PA.Ev} (h:SN.Ad s) (hl: ∀x∈e.params,x<=65535) (ha:asks e=false):saidE s e= [] :=by
 have hb:=NY h
 have:=Nj s Z e.kind e.priv e.inter e.final e.params hb.1 hb.2.1 (Nat.zero_le _) (Nat.zero_le _) hl
 rw [show PA.Bd (ans Z e.kind e.priv e.inter e.final e.params)=false from ha] at this
 simpa [saidE] using this.symm
theorem Pz (n:Nat):(PA.FY n).length<=21:=IC 20 n
theorem NZ (s:SN.Sc) (e:PA.Ev):(saidE s e).length<=60:=by
 have h1:=Pz (first e.params).toNat
 have h2:=Pz ((if s.org then s.row-s.top else s.row)+1)
 have h3:=Pz (s.col+1)
 unfold saidE said
 split
 ·simp
 split
 ·simp;omega
 split
 ·simp
 split
 ·simp
 split
 ·simp;omega
 split
 ·simp
 ·simp
theorem Rt (s:SN.Sc) (l:List PA.Ev):(outs s l).length<=60*l.length:=by
 induction l generalizing s with
 | nil=>simp [outs]
 | cons a l ih=>
  have h1:=NZ s a
  have h2:=ih (SN.Rc s a)
  simp only [outs,List.length_append,List.length_cons]
  omega
theorem X3 (s:SN.Sc) {M:List (PA.Ev × Value)} {k:Nat} {q:PA.Ev × Value} (h:M[k]? =some q):outs s ((M.take (k+1)).map (·.1))=outs s ((M.take k).map (·.1))++saidE (SN.Bf s ((M.take k).map (·.1))) q.1:=by
 rw [List.take_add_one,h]
 simp only [Option.toList_some,List.map_append,List.map_cons,List.map_nil]
 exact Oo s _ _
theorem gM (s:SN.Sc) (M:List (PA.Ev × Value)) {d k:Nat} (h:d<=k):SN.Bf (SN.Bf s ((M.take d).map (·.1))) (((M.take k).drop d).map (·.1))=SN.Bf s ((M.take k).map (·.1)):=by
 rw [<- SN.Oi, <- List.map_append,show M.take d=(M.take k).take d by rw [List.take_take,Nat.min_eq_left h],List.take_append_drop]
end RP
def cutV (A:Option Addr) (d k c:Nat):Value:=.slice (if c=d then A else A.map (·.add (d*7))) (k-d) (c-d)
theorem gN (ρ:Operand->Value) (w:World) (A:Option Addr) (n c d k:Nat) (x y z:Operand) (hx:ρ x=.slice A n c) (hy:ρ y=.int .i64 (d:Nat)) (hz:ρ z=.int .i64 (k:Nat)) (h1:d<=k) (h2:k<=c) (dst:Option Tmp) (t:TypeId) (p:String) (af:Array Edge) (g:Option (Nat × Bool)):
  (execOp ρ ⟨dst,.slice 56 x (some y) (some z) none,t,p,af,g⟩).run Tryz.prog w=.ok (.value (cutV A d k c)) w:=by
 have h1':(d:Int)<=k:=by omega
 have h2':(k:Int)<=c:=by omega
 have h3':(0:Int)<=d:=by omega
 go_simp
 rfl
theorem Ru (ρ:Operand->Value) (w:World) (A:Option Addr) (n c d:Nat) (x y:Operand) (hx:ρ x=.slice A n c) (hy:ρ y=.int .i64 (d:Nat)) (h1:d<=n) (dst:Option Tmp) (t:TypeId) (p:String) (af:Array Edge) (g:Option (Nat × Bool)):
  (execOp ρ ⟨dst,.slice 56 x (some y) none none,t,p,af,g⟩).run Tryz.prog w=.ok (.value (cutV A d n c)) w:=by
 have h1':(d:Int)<=n:=by omega
 have h3':(0:Int)<=d:=by omega
 go_simp
 rfl
theorem aH (s T0 T1:SN.Sc) (v:Value) (A:Option Addr) (n c d k:Nat) (M:List (PA.Ev × Value)) (w:World) (h0:SN.Bf s ((M.take d).map (·.1))=T0) (h1:SN.Bf s ((M.take k).map (·.1))=T1) (hd:d<=k) (hk:k<=n) (hs:SN.Ad s) (hE:Gp w A n M) (hn:n<=1000000) (hnc:n<=c) (hF: ∀p∈M,PA.Fits p.1) (hC: ∀p∈M,Ol p.2) (hT:I7 w) (h:IsS w T0 v):
  Calls Tryz.prog 24 #[v,cutV A d k c] w (Az w T1):=by
 subst h0 h1
 rw [<- RP.gM s M hd]
 have hm: ∀p∈(M.take k).drop d,p∈M:=fun p hp=>List.mem_of_mem_take (List.mem_of_mem_drop hp)
 refine aC _ v _ (k-d) (c-d) ((M.take k).drop d) w (SN.FZ hs _) (hE.cut rfl hk (fun gb e hlt=>?_)) (by omega) (by omega) (fun p hp=>hF p (hm p hp)) (fun p hp=>hC p (hm p hp)) hT h
 subst e
 rw [if_neg (by omega)]
 simp [Addr.add]
 omega
def Dt (w:World) (g:Nat) (b:Option Nat) (p:PA.Ev × Value):Prop:=
 ∃Ap cp,p.2=.slice Ap p.1.params.length cp/\p.1.params.length<=cp/\p.1.params.length<=100/\ ∀j u,(Br p.1.params)[j]? =some u-> ∃ad,Ap=some ad/\ad.block<w.heap.size/\some ad.block≠b/\ad.block≠g/\w.cell? (ad.add j)=some u
section
variable {w w':World} {p:PA.Ev × Value} {b:Option Nat} {g:Nat}
theorem Dt.keep (h:Dt w g b p) (k:Below w.heap.size w w'):Dt w' g b p:=by
 obtain⟨Ap,cp,h1,h2,h3,h4⟩:=h
 exact⟨Ap,cp,h1,h2,h3,fun j u hu=>by
  obtain⟨ad,e1,e2,e3,e5,e4⟩:=h4 j u hu
  exact⟨ad,e1,Nat.lt_of_lt_of_le e2 k.size,e3,e5,(k.cell (p:=ad.add j) (by rw [addBlock];exact e2)).trans e4⟩⟩
theorem Dt.grown {v v':Value} (h:Dt w g v.ownBlock p) (k:w.grownBy w' v.ownBlock) (m:Moved w v v'):Dt w' g v'.ownBlock p:=by
 obtain⟨Ap,cp,h1,h2,h3,h4⟩:=h
 exact⟨Ap,cp,h1,h2,h3,fun j u hu=>by
  obtain⟨ad,e1,e2,e3,e5,e4⟩:=h4 j u hu
  refine⟨ad,e1,Nat.lt_of_lt_of_le e2 k.size,fun e=>?_,e5,(World.cell?_of_block (w:=w) (by rw [addBlock];exact k.block ad.block e2 e3)).trans e4⟩
  rcases From.moved m _ e.symm with x | x
  ·simp only [List.mem_singleton] at x
   exact e3 x
  ·omega⟩
theorem Dt.ok (h:Dt w g b p):nH w p:=by
 obtain⟨Ap,cp,h1,h2,h3,h4⟩:=h
 exact⟨Ap,cp,h1,⟨by simp [Br],fun j u hu=>by
  obtain⟨ad,e1,e2,e3,e5,e4⟩:=h4 j u hu
  exact⟨ad,e1,e2,e4⟩⟩,by omega⟩
theorem Dt.cap (h:Dt w g b p):Ol p.2:=by
 obtain⟨Ap,cp,h1,h2,h3,h4⟩:=h
 rw [h1]
 exact iN h2
theorem Dt.new {e:PA.Ev} {A:Option Addr} {c g0:Nat} (hc:e.params.length<=c) (hl:e.params.length<=100) (hs:Seen w w.heap.size A e.params.length (Br e.params)) (hf: ∀ad,A=some ad->g0<=ad.block) (hb: ∀g,b=some g->g<g0) (hg:g<g0):Dt w g b (e,.slice A e.params.length c):=
 ⟨A,c,rfl,hc,hl,fun j u hu=>by
  obtain⟨ad,e1,e2,e3⟩:=hs.2 j u hu
  have h1:=hf ad e1
  refine⟨ad,e1,e2,fun x=>?_,by omega,e3⟩
  have h2:=hb _ x.symm
  omega⟩
theorem Dt.store (h:Dt w g b p) (k:Kept [some g] w w'):Dt w' g b p:=by
 obtain⟨Ap,cp,h1,h2,h3,h4⟩:=h
 exact⟨Ap,cp,h1,h2,h3,fun j u hu=>by
  obtain⟨ad,e1,e2,e3,e5,e4⟩:=h4 j u hu
  exact⟨ad,e1,Nat.lt_of_lt_of_le e2 k.size,e3,e5,(k.cell (p:=ad.add j) (by rw [addBlock];exact e2) (by rw [addBlock];simpa using e5)).trans e4⟩⟩
end
theorem X4 {w:World} {B c n g:Nat} {A b:Option _} {M:List (PA.Ev × Value)} (h:w.ownsRow B 34 7 (.slice A n c) n (Fg M)) (hn:M.length=n) (hp: ∀p∈M,Dt w g b p):Gp w A n M:=by
 refine⟨hn,fun k p hk=>?_⟩
 have hkl:k<M.length:=(List.getElem?_eq_some_iff.1 hk).1
 rcases h.2 with ⟨hv,h0⟩ | ⟨gb,cap,cur,hv,_,hh,_⟩
 ·omega
 ·injection hv with h1 h2 h3
  subst h1 h3
  refine⟨gb,rfl,(Array.getElem?_eq_some_iff.1 hh).1,fun j u hu=>?_,(hp p (List.mem_of_getElem? hk)).ok⟩
  have hj:j<7:=(List.getElem?_eq_some_iff.1 hu).1
  rw [h.cellAt _ (by omega)]
  exact JJ M k j p u hk hu
theorem Rv (M:List (PA.Ev × Value)) (p:PA.Ev × Value):Fg (M++ [p])=Fg M++Fe p.1 p.2:=by
 simp [Fg]
end Go.Proofs.YtoaabebgmdbjeaaGreatDoor
