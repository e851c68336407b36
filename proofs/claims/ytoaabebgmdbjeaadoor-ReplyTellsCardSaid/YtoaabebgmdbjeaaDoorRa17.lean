/- A part of the proof: ReplyTells, ReplyTellsAny. -/
import Derived.Test.YtoaabebgmdbjeaaDoorRa13
import Derived.Test.YtoaabebgmdbjeaaDoorRa15
import Derived.Test.YtoaabebgmdbjeaaDoorRa14
import Derived.Test.YtoaabebgmdbjeaaDoorRa16
set_option maxRecDepth 100000
set_option maxHeartbeats 16000000
set_option linter.unusedVariables false
namespace Go.Proofs.YtoaabebgmdbjeaaDoor
open Go Go.RowKit
theorem RP.L6 {e:PA.Ev} (h:PA.Right e):e.params.length<=16/\ ∀x∈e.params, -1<=x/\x<=65535:=by
 rcases h with ⟨r,rfl,_⟩ | ⟨b,rfl,_⟩ | ⟨i,f,rfl,_⟩ | ⟨p,i,f,ps,rfl,_,_,_,_,h1,h2,_⟩ | ⟨t,rfl,_⟩
 ·simp [PA.pr]
 ·simp
 ·simp
 ·exact⟨h1,h2⟩
 ·simp
theorem RP.Od {m:Int} (h: -1<=m/\m<=30):(Ac [m]).length<=16/\ ∀x∈Ac [m], -1<=x/\x<=65535:=by
 unfold Ac
 split
 ·simp
 ·simp;omega
def Qv (w:World) (g:Nat) (ev:PA.Ev):Prop:= ∃A c,Box w g 38 #[.int .i64 ev.kind,.int .i32 ev.rune,.int .u8 ev.priv,.int .u8 ev.inter,.int .u8 ev.final,.slice A ev.params.length c,.string (strOfNums ev.text)] /\ev.params.length<=c/\Seen w w.heap.size A ev.params.length (Aj ev.params)
theorem Iu (kcs:Array Value) (kd' rn' fn':Int) (Aq:Option Addr) (nq cq:Nat) (lq:List Int) (Au:Option Addr) (nu cu:Nat) (lu:List Int) (wh n:Int) (S:SN.Sc) (w:World) (hk13:kcs.size=13) (hS:SN.Jz S) (hR5:S.g.rows<=5) (hK9:S.g.AO<=9) (hM:EL w) (hT:FY w)
  (hq1: -9223372036854775808<=kd'/\kd'<=9223372036854775807) (hq2: -9223372036854775808<=rn'/\rn'<=9223372036854775807) (hq3: -9223372036854775808<=fn'/\fn'<=9223372036854775807) (hP:Arg .i64 w Aq nq cq lq) (hU:Arg .u8 w Au nu cu lu)
  (hwh: -9223372036854775808<=wh/\wh<=9223372036854775807) (hn: -9223372036854775808<=n/\n<=9223372036854775807)
  (KS:Hid (∀w',Below w.heap.size w w'->Calls Tryd.prog 9 #[.agg kcs] w' (Md w' S))):
  Calls Tryd.prog 4 #[.agg kcs,.agg #[.int .i64 kd',.int .i64 rn',.int .i64 fn',.slice Aq nq cq,.slice Au nu cu],.int .i64 wh,.int .i64 n] w fun e w'=>e=.returned (.bool true)/\Below w.heap.size w w':=by
 have b1:S.row<=60000:=by have:=hS.row;omega
 have b2:S.col<=60000:=by have:=hS.col;omega
 have b3:S.top<=60000:=by have:=hS.top;have:=hS.bot;omega
 have LO0:=hide (Below.refl w.heap.size w)
 have hcq:=hP.cap
 have hcu:=hU.cap
 obtain⟨ev0,Pz⟩: ∃ev,PA.BL kd' rn' fn' lq lu=ev:=⟨_,rfl⟩
 have FT0:=hide (Pz▸RP.L6 (PA.Ei kd' rn' fn' lq lu):ev0.params.length<=16/\ ∀x∈ev0.params, -1<=x/\x<=65535)
 have KE:=hide (fun w' (hb:Below w.heap.size w w')=>Pz▸Jr kd' rn' fn' Aq Au nq cq nu cu w' lq lu hq1 hq2 hq3 (hP.below hb) (hU.below hb))
 obtain⟨m,hm⟩: ∃m, -1+n%(30- -1+1)=m:=⟨_,rfl⟩
 have hmb: -1<=m/\m<=30:=by
  have x1:=Int.emod_nonneg n (show(30- -1+1:Int)≠0 by decide)
  have x2:=Int.emod_lt_of_pos n (show(0:Int)<30- -1+1 by decide)
  omega
 obtain⟨q,hq⟩: ∃q,0+wh%(4-0+1)=q:=⟨_,rfl⟩
 have W1:=hide (fun w'=>AQ n (-1) 30 m hm w' hn.1 hn.2 (by omega) (by omega) (by omega))
 have W2:=hide (fun w'=>AQ wh 0 4 q hq w' hwh.1 hwh.2 (by omega) (by omega) (by omega))
 have FTm:=hide (RP.Od hmb)
 have CSm:=hide (fun (f:Int) (w':World) g (hb:Box w' g 3 #[.int .i64 m])=>FI (f:=f) (A:=some ⟨g,0,none⟩) (n:=1) (c:=1) (l:= [m]) (w:=w') (Ac [m]) (Ac [m]).length rfl rfl (Seen.Bq hb rfl rfl hb.lt) (by omega))
 have RYF:=hide (fun (ev:PA.Ev) (hl:ev.params.length<=16) (hb: ∀x∈ev.params, -1<=x/\x<=65535) (bs:List Int) (hbs:RP.said S ev.kind ev.priv ev.inter ev.final ev.params=bs) (w':World) A c A' c' (hs:Seen w' w'.heap.size A' ev.params.length (Aj ev.params))=>
  Lu S (.slice A (S.g.rows*S.g.AO) c) ev.kind ev.rune ev.priv ev.inter ev.final A' ev.params.length c' w'.heap.size (strOfNums ev.text) ev.params w' bs hbs b1 b2 b3 rfl hs (Nat.le_refl _) (by omega) hb)
 have TOF:=hide (fun (ev:PA.Ev) (hl:ev.params.length<=16) (hb: ∀x∈ev.params, -1<=x/\x<=65535) (bs:List Int) (hbs:RP.said S ev.kind ev.priv ev.inter ev.final ev.params=bs) (w':World) (hw:Below w.heap.size w w') A c A' c' (hs:Seen w' w'.heap.size A' ev.params.length (Aj ev.params)) (h:IsG w' S.g (gv S.g.rows S.g.AO (.slice A (S.g.rows*S.g.AO) c)))=>
  M6 S (.slice A (S.g.rows*S.g.AO) c) ev.kind ev.rune ev.priv ev.inter ev.final A' ev.params.length c' w'.heap.size (strOfNums ev.text) ev.params w' bs bs.length hbs rfl b1 b2 b3 rfl hs (Nat.le_refl _) hb (hM.keep hw) (hT.keep hw) ⟨_,rfl,h⟩)
 have ASF:=hide (fun (ev:PA.Ev) (hl:ev.params.length<=16) (hb: ∀x∈ev.params, -1<=x/\x<=65535) (bs:List Int) (hbs:RP.said S ev.kind ev.priv ev.inter ev.final ev.params=bs) (e0:Bool) (he:(!decide (bs= []))=e0) (w':World) (hw:Below w.heap.size w w') A' c' (hs:Seen w' w'.heap.size A' ev.params.length (Aj ev.params))=>
  Jm ev.kind ev.rune ev.priv ev.inter ev.final A' ev.params.length c' w'.heap.size (strOfNums ev.text) ev.params w' e0 ((RP.Gv S RP.Z ev.kind ev.priv ev.inter ev.final ev.params b1 b2 (Nat.zero_le _) (Nat.zero_le _) (fun y hy=>(hb y hy).2)).trans (by rw [hbs, <- he];simp)) hs (Nat.le_refl _) hb (hM.keep hw))
 have RUN:=hide (fun w' (hw:Below w.heap.size w w')=>Ec w' (hM.keep hw) (hT.keep hw))
 clear hM hT hP hU Pz hm hq hn hwh hS hq1 hq2 hq3 hcq hcu
 go_enter Tryd.func4,Tryd.ntmps4
 go_upto_region 1 with (refine Gu hk13 rfl _ rfl rfl ?_;intro gk wk hKB hbk hlk)
 have hx1:Box (wk.alloc (.cells #[.int .i64 kd',.int .i64 rn',.int .i64 fn',.slice Aq nq cq,.slice Au nu cu] 48)) wk.heap.size 48 #[.int .i64 kd',.int .i64 rn',.int .i64 fn',.slice Aq nq cq,.slice Au nu cu] :=Box.new wk 48 #[.int .i64 kd',.int .i64 rn',.int .i64 fn',.slice Aq nq cq,.slice Au nu cu]
 have hxb:Below wk.heap.size wk (wk.alloc (.cells #[.int .i64 kd',.int .i64 rn',.int .i64 fn',.slice Aq nq cq,.slice Au nu cu] 48)):=(Below.refl wk.heap.size wk).alloc (Nat.le_refl _) _
 have P5:O6 (wk.alloc (.cells #[.int .i64 kd',.int .i64 rn',.int .i64 fn',.slice Aq nq cq,.slice Au nu cu] 48)) gk kcs:=⟨hKB.1.alloc (.cells #[.int .i64 kd',.int .i64 rn',.int .i64 fn',.slice Aq nq cq,.slice Au nu cu] 48),hKB.2⟩
 have hbb:=hbk.trans (hxb.mono hbk.size)
 generalize (wk.alloc (.cells #[.int .i64 kd',.int .i64 rn',.int .i64 fn',.slice Aq nq cq,.slice Au nu cu] 48))=wb at hx1 hxb P5 hbb⊢
 generalize wk.heap.size=g1 at hx1⊢
 have HK1:=hide hx1
 clear hx1 hxb hKB hbk hlk
 have LO1:=hide (LO0.out.trans (hbb.mono LO0.out.size))
 clear LO0 hbb
 go_wp2_with (refine Gb P5 rfl _ rfl rfl ?_)
 refine(KS.out _ LO1.out).mono ?_
 rintro e wb1 ⟨v1,rfl,⟨x1,rfl,hg1⟩,hb1⟩
 have HK2:=hide (HK1.out.below hb1 HK1.out.lt)
 clear HK1 P5
 have LO2:=hide (LO1.out.trans (hb1.mono LO1.out.size))
 clear LO1 hb1
 obtain⟨A1,c1,rfl⟩:=Dk hg1
 have M7:=hide hg1
 clear hg1
 go_upto_region 2 with (first | (refine Bc rfl rfl ?_;intro gs wags csgs KR Ph Jo Pj) | (refine BO KR Ph rfl _ _ rfl rfl rfl rfl ?_;intro Ip M8 Jp Pk))
 have Qj:w.heap.size<=gs:=by have:=LO2.out.size;omega
 have NT:g1≠gs:=by have:=HK2.out.lt;omega
 have HK3:=hide ((HK2.out.below Jo HK2.out.lt).kept Jp (by simp;exact NT))
 clear HK2
 have M9:=hide (M7.out.low Jo)
 have LO3:=hide (LO2.out.trans (Jo.mono LO2.out.size))
 clear M7 LO2 Jo
 have NA:=hide (M9.out.kept KR (by decide) Jp)
 have LO4:=hide (LO3.out.trans (Jp.toBelow LO3.out.size (fun k hh=>by simp at hh;omega)))
 clear M9 LO3
 have Gn:=hide M8
 clear M8 Jp KR Pj Pk
 have e0:Ip.cell? ⟨g1,0,none⟩=some (.int .i64 kd'):=HK3.out.cell 0
 have e1:Ip.cell? ⟨g1,1,none⟩=some (.int .i64 rn'):=HK3.out.cell 1
 have e2:Ip.cell? ⟨g1,2,none⟩=some (.int .i64 fn'):=HK3.out.cell 2
 have e3:Ip.cell? ⟨g1,3,none⟩=some (.slice Aq nq cq):=HK3.out.cell 3
 have e4:Ip.cell? ⟨g1,4,none⟩=some (.slice Au nu cu):=HK3.out.cell 4
 go_wp2_with fail
 refine(KE.out _ LO4.out).mono ?_
 rintro e wb2 ⟨Ax,cx,rfl,hsx,hb2,hax,hcx⟩
 clear e0 e1 e2 e3 e4 HK3 KE
 have Iq:=hide (Gn.out.below hb2 Gn.out.lt)
 have KT:=hide (NA.out.low hb2)
 have LO5:=hide (LO4.out.trans (hb2.mono LO4.out.size))
 clear Gn NA LO4 hb2
 go_upto_region 3 with (refine BN (ds:= #[.int .i64 ev0.kind,.int .i32 ev0.rune,.int .u8 ev0.priv,.int .u8 ev0.inter,.int .u8 ev0.final,.slice Ax ev0.params.length cx,.string (strOfNums ev0.text)]) (Box.new wb2 38 #[.int .i64 0,.int .i32 0,.int .u8 0,.int .u8 0,.int .u8 0,.slice none 0 0,.string ⟨#[]⟩]) rfl rfl _ _ _ rfl rfl rfl (by kernel_rfl) (by simp [Value.oneCell']) ?_;intro w3 hB3 hk3 hs3)
 have ha3:Below wb2.heap.size wb2 (wb2.alloc (.cells #[.int .i64 0,.int .i32 0,.int .u8 0,.int .u8 0,.int .u8 0,.slice none 0 0,.string ⟨#[]⟩] 38)):=(Below.refl wb2.heap.size wb2).alloc (Nat.le_refl _) _
 have hkk:Below wb2.heap.size wb2 w3:=ha3.trans (hk3.toBelow (by simp) (fun k hh=>by simp at hh;omega))
 obtain⟨gx,hgx⟩: ∃g,wb2.heap.size=g:=⟨_,rfl⟩
 have FM:gs≠gx:=by have:=Iq.out.lt;omega
 have HX3:=hide (show Qv w3 gx ev0 from⟨Ax,cx,hgx▸hB3,hcx,(hsx.below hkk).more hkk.size⟩)
 have lgx:w.heap.size<=gx:=by have:=LO5.out.size;omega
 simp only [hgx]
 clear hsx hax hcx hB3 hk3 hs3 ha3 hgx
 have Iw:=hide (Iq.out.below hkk Iq.out.lt)
 have L8:=hide (KT.out.low hkk)
 have LO6:=hide (LO5.out.trans (hkk.mono LO5.out.size))
 clear Iq KT LO5 hkk
 go_wp2_with fail
 refine(W1.out _).mono ?_
 rintro e w' ⟨rfl,rfl⟩
 go_wp2_with fail
 refine(W2.out _).mono ?_
 rintro e w' ⟨rfl,rfl⟩
 clear W1 W2
 rename World=>w3
 go_upto_block 0 with fail
 go_cut [] from 21 to 38 (fun wx=> ∃ev,Qv wx gx ev/\(ev.params.length<=16/\ ∀x∈ev.params, -1<=x/\x<=65535)/\AY wx gs (.slice A1 (S.g.rows*S.g.AO) c1) S/\IsG wx S.g (gv S.g.rows S.g.AO (.slice A1 (S.g.rows*S.g.AO) c1))/\Below w.heap.size w wx)
 case first=>
  obtain⟨Ax,cx,hXB,hcx,hsx⟩:=HX3.out
  rcases q0:(q==0) with _ | _
  ·skip
   rcases q1:(q==1) with _ | _
   ·skip
    rcases q2:(q==2) with _ | _
    ·skip
     rcases q3:(q==3) with _ | _
     ·skip
      go_wp2_with fail
      go_meet
      exact⟨ev0,HX3.out,FT0.out,Iw.out,L8.out,LO6.out⟩
     ·skip
      clear HX3
      go_wp2_with (refine BN (ds:= #[.int .i64 4,.int .i32 0,.int .u8 62,.int .u8 0,.int .u8 99,.slice none 0 0,.string ⟨#[]⟩]) (hXB) rfl rfl _ _ _ rfl rfl rfl (by kernel_rfl) (by simp [Value.oneCell']) ?_;intro w5 hB5 hk5 hs5)
      go_meet
      exact⟨⟨4,0,62,0,99, [], []⟩,⟨_,_,hB5,Nat.le_refl _,Seen.Dz _ _ _⟩,⟨by simp,by simp⟩,(Iw.out).kept hk5 (by simp;exact FM),(L8.out).kept (hXB) (by decide) hk5,(LO6.out).trans (hk5.toBelow LO6.out.size (fun k hh=>by simp at hh;omega))⟩
    ·skip
     clear HX3
     have b4:=(Below.refl w3.heap.size w3).alloc (Nat.le_refl _) (.cells #[.int .i64 m] 3)
     have hgl:=hXB.lt
     go_wp2_with (refine BN (ds:= #[.int .i64 4,.int .i32 0,.int .u8 63,.int .u8 36,.int .u8 112,.slice (some ⟨w3.heap.size,0,none⟩) 1 1,.string ⟨#[]⟩]) (hXB.below b4 hXB.lt) rfl rfl _ _ _ rfl rfl rfl (by kernel_rfl) (by simp [Value.oneCell']) ?_;intro w5 hB5 hk5 hs5)
     have hr:Seen w5 w5.heap.size (some ⟨w3.heap.size,0,none⟩) 1 (Aj [m]):=by exact(Seen.Bq (Box.new w3 3 #[.int .i64 m]) rfl rfl (Box.new w3 3 #[.int .i64 m]).lt).Mh hk5 (fun ad h=>by cases h;simp;omega)
     go_meet
     exact⟨⟨4,0,63,36,112, [m], []⟩,⟨_,_,hB5,Nat.le_refl _,hr⟩,⟨by simp,by simp;omega⟩,(Iw.out.below b4 Iw.out.lt).kept hk5 (by simp;exact FM),(L8.out.low b4).kept ((hXB.below b4 hXB.lt)) (by decide) hk5,(LO6.out.trans (b4.mono LO6.out.size)).trans (hk5.toBelow (Nat.le_trans LO6.out.size b4.size) (fun k hh=>by simp at hh;omega))⟩
   ·skip
    clear HX3
    go_wp2_with fail
    refine(CSm.out 99 _ _ (Box.new w3 3 #[.int .i64 m])).mono ?_
    rintro e w4 ⟨A4,c4,rfl,hc4,r4,b4⟩
    have b4:=((Below.refl w3.heap.size w3).alloc (Nat.le_refl _) (.cells #[.int .i64 m] 3)).trans (b4.mono (by simp))
    have hgl:=hXB.lt
    go_wp2_with (refine BN (ds:= #[.int .i64 4,.int .i32 0,.int .u8 0,.int .u8 0,.int .u8 99,.slice A4 (Ac [m]).length c4,.string ⟨#[]⟩]) (hXB.below b4 hXB.lt) rfl rfl _ _ _ rfl rfl rfl (by kernel_rfl) (by simp [Value.oneCell']) ?_;intro w5 hB5 hk5 hs5)
    have hr:Seen w5 w5.heap.size A4 (Ac [m]).length (Aj (Ac [m])):=by exact r4.1.Mh hk5 (fun ad h=>by have:=r4.2 ad h;simp at this⊢;omega)
    go_meet
    exact⟨⟨4,0,0,0,99,Ac [m], []⟩,⟨_,_,hB5,hc4,hr⟩,FTm.out,(Iw.out.below b4 Iw.out.lt).kept hk5 (by simp;exact FM),(L8.out.low b4).kept ((hXB.below b4 hXB.lt)) (by decide) hk5,(LO6.out.trans (b4.mono LO6.out.size)).trans (hk5.toBelow (Nat.le_trans LO6.out.size b4.size) (fun k hh=>by simp at hh;omega))⟩
  ·skip
   clear HX3
   go_wp2_with fail
   refine(CSm.out 110 _ _ (Box.new w3 3 #[.int .i64 m])).mono ?_
   rintro e w4 ⟨A4,c4,rfl,hc4,r4,b4⟩
   have b4:=((Below.refl w3.heap.size w3).alloc (Nat.le_refl _) (.cells #[.int .i64 m] 3)).trans (b4.mono (by simp))
   have hgl:=hXB.lt
   go_wp2_with (refine BN (ds:= #[.int .i64 4,.int .i32 0,.int .u8 0,.int .u8 0,.int .u8 110,.slice A4 (Ac [m]).length c4,.string ⟨#[]⟩]) (hXB.below b4 hXB.lt) rfl rfl _ _ _ rfl rfl rfl (by kernel_rfl) (by simp [Value.oneCell']) ?_;intro w5 hB5 hk5 hs5)
   have hr:Seen w5 w5.heap.size A4 (Ac [m]).length (Aj (Ac [m])):=by exact r4.1.Mh hk5 (fun ad h=>by have:=r4.2 ad h;simp at this⊢;omega)
   go_meet
   exact⟨⟨4,0,0,0,110,Ac [m], []⟩,⟨_,_,hB5,hc4,hr⟩,FTm.out,(Iw.out.below b4 Iw.out.lt).kept hk5 (by simp;exact FM),(L8.out.low b4).kept ((hXB.below b4 hXB.lt)) (by decide) hk5,(LO6.out.trans (b4.mono LO6.out.size)).trans (hk5.toBelow (Nat.le_trans LO6.out.size b4.size) (fun k hh=>by simp at hh;omega))⟩
 case rest=>
  obtain⟨ev,HX,HF,HSx,HGx,LOx⟩:=hcut
  clear Iw L8 LO6 HX3 CSm FTm FT0
  rename World=>w5
  have HF:=hide HF
  have HS5:=hide HSx
  have HG5:=hide HGx
  have LO5:=hide LOx
  obtain⟨Ax,cx,hXB,hcx,hsx⟩:=HX
  have HX5:=hide hXB
  have HQ5:=hide hsx
  clear HSx HGx LOx hXB hsx
  obtain⟨bs,hbs⟩: ∃bs,RP.said S ev.kind ev.priv ev.inter ev.final ev.params=bs:=⟨_,rfl⟩
  have HBS:=hide hbs
  obtain⟨e0,he0⟩: ∃e,(!decide (bs= []))=e:=⟨_,rfl⟩
  have HE0:=hide he0
  clear hbs he0
  have y0:w5.cell? ⟨gx,0,none⟩=some (.int .i64 ev.kind):=HX5.out.cell 0
  have y1:w5.cell? ⟨gx,1,none⟩=some (.int .i32 ev.rune):=HX5.out.cell 1
  have y2:w5.cell? ⟨gx,2,none⟩=some (.int .u8 ev.priv):=HX5.out.cell 2
  have y3:w5.cell? ⟨gx,3,none⟩=some (.int .u8 ev.inter):=HX5.out.cell 3
  have y4:w5.cell? ⟨gx,4,none⟩=some (.int .u8 ev.final):=HX5.out.cell 4
  have y5:w5.cell? ⟨gx,5,none⟩=some (.slice Ax ev.params.length cx):=HX5.out.cell 5
  have y6:w5.cell? ⟨gx,6,none⟩=some (.string (strOfNums ev.text)):=HX5.out.cell 6
  go_wp2_with (refine BA HS5.out rfl _ rfl rfl ?_)
  refine(RYF.out ev HF.out.1 HF.out.2 bs HBS.out _ _ _ _ _ HQ5.out).mono ?_
  rintro e w6 ⟨rfl,h6⟩
  clear y0 y1 y2 y3 y4 y5 y6
  have HS6:=hide (HS5.out.below h6 HS5.out.lt)
  have HG6:=hide (HG5.out.low h6)
  have LO6:=hide (LO5.out.trans (h6.mono LO5.out.size))
  have HX6:=hide (HX5.out.below h6 HX5.out.lt)
  have HQ6:=hide ((HQ5.out.below h6).more h6.size)
  clear HS5 HG5 LO5 HX5 HQ5 h6
  obtain⟨se,hse⟩: ∃se,strOfNums bs=se:=⟨_,rfl⟩
  have hsl:(se.toList== [])= !e0:=by
   rw [<- hse, <- HE0.out,CK]
   cases bs<;>simp
  have HSE:=hide hse
  have hs2:(se.toList != [])=e0:=by simp only [bne,hsl];simp
  rw [hse]
  clear hse
  have y0:w6.cell? ⟨gx,0,none⟩=some (.int .i64 ev.kind):=HX6.out.cell 0
  have y1:w6.cell? ⟨gx,1,none⟩=some (.int .i32 ev.rune):=HX6.out.cell 1
  have y2:w6.cell? ⟨gx,2,none⟩=some (.int .u8 ev.priv):=HX6.out.cell 2
  have y3:w6.cell? ⟨gx,3,none⟩=some (.int .u8 ev.inter):=HX6.out.cell 3
  have y4:w6.cell? ⟨gx,4,none⟩=some (.int .u8 ev.final):=HX6.out.cell 4
  have y5:w6.cell? ⟨gx,5,none⟩=some (.slice Ax ev.params.length cx):=HX6.out.cell 5
  have y6:w6.cell? ⟨gx,6,none⟩=some (.string (strOfNums ev.text)):=HX6.out.cell 6
  go_wp2_with (refine BA HS6.out rfl _ rfl rfl ?_)
  refine(TOF.out ev HF.out.1 HF.out.2 bs HBS.out _ LO6.out _ _ _ _ HQ6.out HG6.out).mono ?_
  rintro e w7 ⟨A7,c7,rfl,hc7,h7s,h7⟩
  have cv:=Cc (c:=c7) h7s
  rw [HSE.out] at cv
  clear y0 y1 y2 y3 y4 y5 y6
  have HS7:=hide (HS6.out.below h7 HS6.out.lt)
  have HG7:=hide (HG6.out.low h7)
  have LO7:=hide (LO6.out.trans (h7.mono LO6.out.size))
  have HX7:=hide (HX6.out.below h7 HX6.out.lt)
  have HQ7:=hide ((HQ6.out.below h7).more h7.size)
  clear HS6 HG6 LO6 HX6 HQ6 h7
  have y0:w7.cell? ⟨gx,0,none⟩=some (.int .i64 ev.kind):=HX7.out.cell 0
  have y1:w7.cell? ⟨gx,1,none⟩=some (.int .i32 ev.rune):=HX7.out.cell 1
  have y2:w7.cell? ⟨gx,2,none⟩=some (.int .u8 ev.priv):=HX7.out.cell 2
  have y3:w7.cell? ⟨gx,3,none⟩=some (.int .u8 ev.inter):=HX7.out.cell 3
  have y4:w7.cell? ⟨gx,4,none⟩=some (.int .u8 ev.final):=HX7.out.cell 4
  have y5:w7.cell? ⟨gx,5,none⟩=some (.slice Ax ev.params.length cx):=HX7.out.cell 5
  have y6:w7.cell? ⟨gx,6,none⟩=some (.string (strOfNums ev.text)):=HX7.out.cell 6
  go_wp2_with fail
  refine(ASF.out ev HF.out.1 HF.out.2 bs HBS.out e0 HE0.out _ LO7.out _ _ HQ7.out).mono ?_
  rintro e w8 ⟨rfl,h8⟩
  clear y0 y1 y2 y3 y4 y5 y6
  have HS8:=hide (HS7.out.below h8 HS7.out.lt)
  have HG8:=hide (HG7.out.low h8)
  have LO8:=hide (LO7.out.trans (h8.mono LO7.out.size))
  have HX8:=hide (HX7.out.below h8 HX7.out.lt)
  have HQ8:=hide ((HQ7.out.below h8).more h8.size)
  clear HS7 HG7 LO7 HX7 HQ7 h8
  cases e0
  all_goals
   go_wp2_with fail
   refine(RUN.out _ LO8.out).mono ?_
   rintro e w9 ⟨rfl,h9⟩
   go_wp2_with fail
   go_ret
   exact⟨rfl,LO8.out.trans (h9.mono LO8.out.size)⟩
end Go.Proofs.YtoaabebgmdbjeaaDoor
namespace Go.Proofs.YtoaabebgmdbjeaaDoor
open Go.RowKit
theorem Gp (rw cl:Int) (Ap:Option Addr) (np cp:Nat) (lp:List Int) (At:Option Addr) (nt ct:Nat) (lt:List Int) (a b c d e p q r u kd' rn' fn':Int) (Aq Au:Option Addr) (nq cq nu cu:Nat) (lq lu:List Int) (wh n:Int) (w:World)
  (hr:(Lit.int .i64 rw).wf=true) (hc:(Lit.int .i64 cl).wf=true) (hp:Arg .i64 w Ap np cp lp) (ht:Arg .i64 w At nt ct lt) (ha:(Lit.int .i64 a).wf=true) (hb:(Lit.int .i64 b).wf=true) (hc':(Lit.int .i64 c).wf=true) (hd:(Lit.int .i64 d).wf=true) (he:(Lit.int .i64 e).wf=true)
  (hp0:(Lit.int .i64 p).wf=true) (hp1:(Lit.int .i64 q).wf=true) (hp2:(Lit.int .i64 r).wf=true) (hu:(Lit.int .u64 u).wf=true)
  (hk1: -9223372036854775808<=kd'/\kd'<=9223372036854775807) (hk2: -9223372036854775808<=rn'/\rn'<=9223372036854775807) (hk3: -9223372036854775808<=fn'/\fn'<=9223372036854775807) (hkp:Arg .i64 w Aq nq cq lq) (hku:Arg .u8 w Au nu cu lu)
  (hwh:(Lit.int .i64 wh).wf=true) (hn:(Lit.int .i64 n).wf=true) (h1:EL w) (h2:FY w):
  Calls Tryd.prog 4 #[.agg #[.int .i64 rw,.int .i64 cl,.slice Ap np cp,.slice At nt ct,.int .i64 a,.int .i64 b,.int .i64 c,.int .i64 d,.int .i64 e,.int .i64 p,.int .i64 q,.int .i64 r,.int .u64 u],.agg #[.int .i64 kd',.int .i64 rn',.int .i64 fn',.slice Aq nq cq,.slice Au nu cu],.int .i64 wh,.int .i64 n] w fun e w'=>e=.returned (.bool true)/\Below w.heap.size w w':=by
 obtain⟨S,hS,hR5,hK9,KS⟩:=KU rw cl Ap np cp lp At nt ct lt a b c d e p q r u w hr hc hp ht ha hb hc' hd he hp0 hp1 hp2 hu
 exact Iu _ kd' rn' fn' Aq nq cq lq Au nu cu lu wh n S w rfl hS hR5 hK9 h1 h2 hk1 hk2 hk3 hkp hku (by have:=bounds_i64 hwh;omega) (by have:=bounds_i64 hn;omega) KS
end Go.Proofs.YtoaabebgmdbjeaaDoor
