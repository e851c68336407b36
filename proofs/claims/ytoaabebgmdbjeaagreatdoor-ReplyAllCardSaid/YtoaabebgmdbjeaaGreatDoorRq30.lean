/- A part of the proof: ReplyAll, ReplyAllAny. -/
import Derived.Test.YtoaabebgmdbjeaaGreatDoorRq27
import Derived.Test.YtoaabebgmdbjeaaGreatDoorRq29
set_option maxRecDepth 100000
set_option maxHeartbeats 16000000
set_option linter.unusedVariables false
namespace Go.Proofs.YtoaabebgmdbjeaaGreatDoor
open Go Go.RowKit
theorem R5 (l:List Int):(strOfNums l).size=l.length:=by simp [strOfNums,ByteArray.size]
theorem aR (l m:List Int):strOfNums l++strOfNums m=strOfNums (l++m):=by
 apply ByteArray.ext
 simp [strOfNums,ByteArray.data_append]
theorem gu (ρ:Operand->Value) (w:World) (l m:List Int) (x y:Operand) (hx:ρ x=.string (strOfNums l)) (hy:ρ y=.string (strOfNums m)) (hl:l.length+m.length<=1000000) (d:Option Tmp) (p:String) (af:Array Edge) (g:Option (Nat × Bool)) (t:TypeId):(execOp ρ ⟨d,.binOp .add 9 x y 9,t,p,af,g⟩).run Tryz.prog w=.ok (.value (.string (strOfNums (l++m)))) w:=by
 have z1:=R5 l
 have z2:=R5 m
 go_simp
 rw [if_neg (by omega)]
 rw [aR]
theorem Uj (kcs:Array Value) (Ak:Option Addr) (nk ck:Nat) (ask:Int) (S:SN.Sc) (w:World) (hk13:kcs.size=13) (hS:SN.Ad S) (hR5:S.g.rows<=5) (hK9:S.g.AB<=9) (hT:I7 w) (hMT:IW w) (hTN:KO w) (hKA:Oq w Ak nk) (hnk:nk<=maxLen)
  (aS: -9223372036854775808<=ask/\ask<=9223372036854775807) (KS:Hid (∀w',Below w.heap.size w w'->Calls Tryz.prog 11 #[.agg kcs] w' (Az w' S))):
  Calls Tryz.prog 9 #[.agg kcs,.slice Ak nk ck,.int .i64 ask] w fun e w'=>e=.returned (.bool true)/\Below w.heap.size w w':=by
 have RS:=hide hS
 have HT:=hide hT
 have HMT:=hide hMT
 have HTN:=hide hTN
 have KA:=hide hKA
 have hnk2:=hnk
 unfold maxLen at hnk2
 have LO0:=hide (Below.refl w.heap.size w)
 obtain⟨i0,hi,hz0,hz1,hz2⟩:=info_parts dO
 have RUN:=hide (fun w' (hw:Below w.heap.size w w')=>Nz w' (hMT.keep hw) (hTN.keep hw))
 have HSC:=hide (fun (T:SN.Sc) (hR:SN.Ad T) (w':World) A A' c c' h h'=>Tp T A A' c c' w' (Nat.le_trans (Nat.mul_le_mul hR.g.2.1 hR.g.2.2.2.1) (by omega)) h h')
 have hask1:=aS.1
 have hask2:=aS.2
 clear hT hMT hTN hS hKA hnk hR5 hK9 aS
 go_enter Tryz.func9,Tryz.ntmps9
 go_wp2_with (first | (refine Ng hk13 rfl _ rfl rfl ?_;intro gk wk hKB hbk hlk) | (refine Mc hKB rfl _ rfl rfl ?_))
 have LO1:=hide (LO0.out.trans (hbk.mono LO0.out.size))
 clear LO0 hbk
 refine(KS.out _ LO1.out).mono ?_
 rintro e wb1 ⟨v1,rfl,⟨x1,rfl,hg1⟩,hb1⟩
 have LO2:=hide (LO1.out.trans (hb1.mono LO1.out.size))
 clear LO1 hb1
 obtain⟨A1,c1,rfl⟩:=Af hg1
 have Na:=hide hg1
 clear hg1
 go_upto_region 2 with (first | (refine Bb rfl rfl ?_;intro gs wags csgs Ud kG Ue kH) | (refine AQ Ud kG rfl _ _ rfl rfl rfl rfl ?_;intro gU aI Uf kI))
 have nL:w.heap.size<=gs:=by have:=LO2.out.size;omega
 have Nb:=hide (Na.out.low Ue)
 have LO3:=hide (LO2.out.trans (Ue.mono LO2.out.size))
 clear Na LO2 Ue
 have Nc:=hide (Nb.out.kept Ud (by decide) Uf)
 have LO4:=hide (LO3.out.trans (Uf.toBelow LO3.out.size (fun k hh=>by simp at hh;omega)))
 clear Nb LO3
 have Gg:=hide aI
 clear aI Uf Ud kH
 clear kI
 go_simp
 go_upto_region 3 with (first | (refine Bb rfl rfl ?_;intro go wago csgo kS hzgo gy hlgo) | (refine AQ kS hzgo rfl _ _ rfl rfl rfl rfl ?_;intro wsgo nW iA hqgo) | (refine AU Gg.out rfl _ rfl rfl ?_))
 have R6:gs≠go:=by have:=Gg.out.lt;omega
 have le_go:w.heap.size<=go:=by have:=LO4.out.size;omega
 have Ka:=hide (Gg.out.below gy Gg.out.lt)
 have LZ:=hide (Nc.out.low gy)
 have LO5:=hide (LO4.out.trans (gy.mono LO4.out.size))
 clear Gg Nc LO4 gy
 have N7:=hide (Ka.out.kept iA (by simp;first | exact R6 | exact Ne.symm nX))
 have X6:=hide (LZ.out.kept kS (by decide) iA)
 have LO6:=hide (LO5.out.trans (iA.toBelow LO5.out.size (fun k hh=>by simp at hh;omega)))
 clear Ka LZ LO5
 have Nf:=hide nW
 clear nW iA kS hlgo
 clear hqgo
 go_simp
 go_wp2_with fail
 go_loopw [9,10,11] (fun l want i wr=> ∃(j:Nat) (T:SN.Sc) (A:Option Addr) (c:Nat) (M:List (PA.Ev × Value)),j<=15/\j<=nk/\i=.int .i64 (j:Nat)/\M.length=j/\want=.string (strOfNums (RP.outs S (M.map (·.1))))/\Hid (SN.Bf S (M.map (·.1))=T)/\Hid (∀p∈M,PA.Fits p.1)/\Hid (∀p∈M,Dt wr go l.ownBlock p)/\Hid (wr.ownsRow w.heap.size 34 7 l j (Fg M))/\Hid (Am wr gs (.slice A1 (S.g.rows*S.g.AB) c1) S)/\Hid (Am wr go (.slice A (T.g.rows*T.g.AB) c) T)/\Hid (IsG wr S.g (gv S.g.rows S.g.AB (.slice A1 (S.g.rows*S.g.AB) c1)))/\Hid (IsG wr T.g (gv T.g.rows T.g.AB (.slice A (T.g.rows*T.g.AB) c)))/\Hid (Below w.heap.size w wr)) (fun _ _ i _=>15-(intOf i).toNat)
 case atStart=>exact⟨0,S,A1,c1, [],by omega,Nat.zero_le _,rfl,rfl,rfl,hide rfl,hide (fun p hp=>nomatch hp),hide (fun p hp=>nomatch hp),hide (World.ownsRow_nil _ _ _ _),N7,Nf,X6,X6,LO6⟩
 case round=>
  clear N7 Nf X6 LO6
  obtain⟨j,T,A,c,M,hj15,hjk,rfl,hMl,rfl,HTT,HFM,HPF,HOW,HSs,HSo,HGs,HGo,HLO⟩:=hrel
  obtain⟨OS,hOS⟩: ∃O,RP.outs S (M.map (·.1))=O:=⟨_,rfl⟩
  rw [hOS]
  have HOS:=hide hOS
  have hol:=RP.Rt S (M.map (·.1))
  rw [hOS,List.length_map,hMl] at hol
  clear hOS
  obtain⟨go',hgo⟩: ∃b,decide (j<nk/\j<15)=b:=⟨_,rfl⟩
  have HGO:=hide hgo
  clear hgo
  go_upto_region 6 with fail
  go_cut [25] from 18 to 25 (fun u wx=>u=.bool go'/\wx=wr)
  case first=>
   by_cases h1:j<nk
   ·by_cases h2:j<15
    ·obtain rfl:true=go':=by rw [<- HGO.out];exact(decide_eq_true ⟨h1,h2⟩).symm
     go_wp2_with fail
     go_meet
     first | exact⟨rfl,rfl⟩ | exact⟨congrArg Value.bool (decide_eq_true (by omega)),rfl⟩
    ·obtain rfl:false=go':=by rw [<- HGO.out];exact(decide_eq_false (fun h=>h2 h.2)).symm
     go_wp2_with fail
     go_meet
     first | exact⟨rfl,rfl⟩ | exact⟨congrArg Value.bool (decide_eq_false (by omega)),rfl⟩
   ·obtain rfl:false=go':=by rw [<- HGO.out];exact(decide_eq_false (fun h=>h1 h.1)).symm
    go_wp2_with fail
    go_meet
    exact⟨rfl,rfl⟩
  case rest=>
   obtain⟨rfl,hw⟩:=hcut
   subst hw
   rename World=>wr
   cases go' with
   | true=>
    obtain⟨h1,h2⟩:j<nk/\j<15:=of_decide_eq_true HGO.out
    obtain⟨ad,kd,rn,fn,Ap,np,cp,lp,At,nt,ct,lt,hAk,had,q0,q1,q2,q3,q4,hk⟩:=(KA.out.below HLO.out) j h1
    have KE:=hide (fun w' (hb:Below wr.heap.size wr w')=>Ry kd rn fn Ap At np cp nt ct w' lp lt hk.hk hk.hr hk.hf (hk.hP.below hb) (hk.hT.below hb))
    have hfit:=PA.UE (PA.Jd kd rn fn lp lt)
    generalize PA.Cw kd rn fn lp lt=ev0 at hfit KE
    subst hAk
    have hjI:(j:Int)<nk:=by omega
    have CSI:=hide (P5 110 6 (by decide))
    have HFT:=hide hfit
    clear hk HGO hfit
    go_upto_region 8 with fail
    obtain⟨y,hy⟩: ∃y,IntKind.i64.wrap ((j:Int)+ask)=y:=⟨_,rfl⟩
    go_wp2_with fail
    refine(KE.out _ (Below.refl _ _)).mono ?_
    rintro e w2 ⟨Ax0,cx0,rfl,hx,bb,hfr,hcx⟩
    have HX:=hide hx
    have HBB:=hide bb
    have hbx:=Box.new w2 34 #[.int .i64 ev0.kind,.int .i32 ev0.rune,.int .u8 ev0.priv,.int .u8 ev0.inter,.int .u8 ev0.final,.slice Ax0 ev0.params.length cx0,.string (strOfNums ev0.text)]
    clear hx bb q0 q1 q2 q3 q4
    go_upto_region 9 with fail
    clear KE
    have HN:=hide (HBB.out.trans (((Below.refl w2.heap.size w2).alloc (Nat.le_refl _) (.cells #[.int .i64 ev0.kind,.int .i32 ev0.rune,.int .u8 ev0.priv,.int .u8 ev0.inter,.int .u8 ev0.final,.slice Ax0 ev0.params.length cx0,.string (strOfNums ev0.text)] 34)).mono HBB.out.size))
    have hgE:=HBB.out.size
    have HX3:=hide (HX.out.alloc (Nat.le_refl _) (.cells #[.int .i64 ev0.kind,.int .i32 ev0.rune,.int .u8 ev0.priv,.int .u8 ev0.inter,.int .u8 ev0.final,.slice Ax0 ev0.params.length cx0,.string (strOfNums ev0.text)] 34))
    have hbs:w2.heap.size<(w2.alloc (.cells #[.int .i64 ev0.kind,.int .i32 ev0.rune,.int .u8 ev0.priv,.int .u8 ev0.inter,.int .u8 ev0.final,.slice Ax0 ev0.params.length cx0,.string (strOfNums ev0.text)] 34)).heap.size:=by simp
    generalize w2.heap.size=gE at hbx hgE hbs HX3⊢
    generalize w2.alloc (.cells #[.int .i64 ev0.kind,.int .i32 ev0.rune,.int .u8 ev0.priv,.int .u8 ev0.inter,.int .u8 ev0.final,.slice Ax0 ev0.params.length cx0,.string (strOfNums ev0.text)] 34)=w3 at hbx HN HX3 hbs⊢
    clear HX HBB
    go_upto_if 37 with fail
    generalize (y.tmod 3==0)=b3
    go_cut [] from 38 to 39 (fun wx=> ∃(ev:PA.Ev) (Ax:Option Addr) (cx:Nat),PA.Fits ev/\Box wx gE 34 #[.int .i64 ev.kind,.int .i32 ev.rune,.int .u8 ev.priv,.int .u8 ev.inter,.int .u8 ev.final,.slice Ax ev.params.length cx,.string (strOfNums ev.text)] /\ev.params.length<=cx/\Seen wx wx.heap.size Ax ev.params.length (Br ev.params)/\(∀ad,Ax=some ad->wr.heap.size<=ad.block)/\Below wr.heap.size wr wx)
    case first=>
     cases b3 with
     | false=>
      go_wp2_with fail
      go_meet
      exact⟨ev0,Ax0,cx0,HFT.out,hbx,hcx,HX3.out.more (by omega),hfr,HN.out⟩
     | true=>
      go_wp2_with fail
      refine(CSI.out _ _ (Box.new w3 3 #[.int .i64 6])).mono ?_
      rintro e w4 ⟨A4,c4,rfl,hc4,r4,b4⟩
      have b34:=((Below.refl w3.heap.size w3).alloc (Nat.le_refl _) (.cells #[.int .i64 6] 3)).trans (b4.mono (by simp))
      have hE4:=hbx.below b34 hbs
      have hN4:=HN.out.trans (b34.mono HN.out.size)
      obtain⟨x0,x1,x2,x3,x4,x5,x6⟩:=Box.seven hE4
      have fr:=hE4.frozen
      go_wp2_with fail
      go_meet
      exact⟨⟨4,0,0,0,110, [6], []⟩,A4,c4,⟨fun e=>absurd e (by decide),by decide,by decide⟩,Box.Gv hE4 (.int .i64 4) (.int .i32 0) (.int .u8 0) (.int .u8 0) (.int .u8 110) (.slice A4 1 c4) (.string ⟨#[]⟩),hc4,(r4.Ub (by simp;omega) (.int .i64 4) (.int .i32 0) (.int .u8 0) (.int .u8 0) (.int .u8 110) (.slice A4 1 c4) (.string ⟨#[]⟩)).1,fun ad e=>Nat.le_trans HN.out.size (Nat.le_trans (by simp) (r4.2 ad e)),Bt hN4 hgE (.int .i64 4) (.int .i32 0) (.int .u8 0) (.int .u8 0) (.int .u8 110) (.slice A4 1 c4) (.string ⟨#[]⟩)⟩
    case rest=>
     clear hcx hfr HN HX3 hbx hbs HFT hy
     obtain⟨ev,Ax,cx,hfit,hE,hcx,hx,hfr,hb⟩:=hcut
     rename World=>w1
     have hjM:=hMl
     obtain⟨Q,hQ⟩: ∃Q,RP.saidE T ev=Q:=⟨_,rfl⟩
     obtain⟨mq,hmq⟩: ∃m,Q.length=m:=⟨_,rfl⟩
     obtain⟨T',hT'⟩: ∃T',SN.Rc T ev=T':=⟨_,rfl⟩
     have R1:SN.Ad T:=HTT.out▸SN.FZ RS.out _
     have hbd:=RP.NY R1
     have hql:=RP.NZ T ev
     rw [hQ,hmq] at hql
     have hT2:SN.doS T ev.kind ev.rune ev.priv ev.inter ev.final ev.params=T':=hT'
     have TO:=hide (fun (w':World) (A':Option Addr) (c':Nat) (hw:Below w.heap.size w w') (hx:Seen w' w'.heap.size Ax ev.params.length (Br ev.params)) (h:IsG w' T.g (gv T.g.rows T.g.AB (.slice A' (T.g.rows*T.g.AB) c')))=>Uc T (.slice A' (T.g.rows*T.g.AB) c') ev.kind ev.rune ev.priv ev.inter ev.final Ax ev.params.length cx w'.heap.size (strOfNums ev.text) ev.params w' Q mq hQ hmq hbd.1 hbd.2.1 hbd.2.2 rfl hx (Nat.le_refl _) hfit.nums (HMT.out.keep hw) (HTN.out.keep hw) ⟨_,rfl,h⟩)
     have DO:=hide (fun w' v' (hw:Below w.heap.size w w') (hx:Seen w' w'.heap.size Ax ev.params.length (Br ev.params)) h=>hT2▸kF T v' ev.kind ev.rune ev.priv ev.inter ev.final Ax ev.params.length cx w'.heap.size (strOfNums ev.text) ev.params w' R1 hx (Nat.le_refl _) (by have:=hfit.len;omega) hcx hfit.nums hfit.rune (HT.out.keep hw) h)
     have HTT':=hide (show SN.Bf S ((M++ [(ev,Value.slice Ax ev.params.length cx)]).map (·.1))=T' by rw [List.map_append,List.map_cons,List.map_nil,SN.NG,HTT.out];exact hT')
     have HOS':=hide (show RP.outs S ((M++ [(ev,Value.slice Ax ev.params.length cx)]).map (·.1))=OS++Q by rw [List.map_append,List.map_cons,List.map_nil,RP.Oo,HOS.out,HTT.out];exact congrArg (OS++ ·) hQ)
     have HF':=hide (show∀p∈M++ [(ev,Value.slice Ax ev.params.length cx)],PA.Fits p.1 from fun p hp=>by
      rcases List.mem_append.1 hp with h | h
      ·exact HFM.out p h
      ·simp only [List.mem_singleton] at h
       subst h
       exact hfit)
     have hlB: ∀g,u9.ownBlock=some g->g<wr.heap.size:=fun g e=>by
      obtain⟨_,_,_,_,_,hq⟩:=Bo HOW.out
      exact(hq g e).2
     have HPN:=hide (Dt.new (g:=go) (b:=u9.ownBlock) (g0:=wr.heap.size) hcx (by have:=hfit.len;omega) hx hfr hlB HSo.out.lt)
     have nY:=hide (fun p (hp:p∈M)=>(HPF.out p hp).keep hb)
     have HX1:=hide hx
     have aT:=hide (Bl HOW.out (Kept.of_below (L:= []) hb) (by simp))
     have Gg:=hide (HSs.out.below hb HSs.out.lt)
     have Nf:=hide (HSo.out.below hb HSo.out.lt)
     have Na:=hide (HGs.out.low hb)
     have aU:=hide (HGo.out.low hb)
     have R7:=hide (HLO.out.trans (hb.mono HLO.out.size))
     have HE1:=hide hE
     have HSUM:=hide (show OS.length+Q.length<=1000000 by omega)
     have hEs:gE≠gs:=by have:=HSs.out.lt;omega
     have hEo:gE≠go:=by have:=HSo.out.lt;omega
     obtain⟨x0,x1,x2,x3,x4,x5,x6⟩:=Box.seven hE
     have hoB:w.heap.size<=w1.heap.size:=R7.out.size
     clear hE hx hb hT' hT2 hQ hmq hql hbd R1 hfr hfit HPF HOW HSs HSo HGs HGo HLO HTT HOS HFM CSI KA hcx had HSC
     go_upto_region 11 with fail
     go_upto_region 12 with (at_builtin;refine QF rfl (.tmp 40) (.tmp 42) 56 rfl w.heap.size 34 i0 _ 7 56 Tryz.underlying56 hi hz0 hz1 hz2 Y8 (by omega) u9 j _ rfl aT.out _ _ _ rfl rfl rfl (by intro u hu;simp at hu;(repeat' (first | (rcases hu with rfl | hu) | subst hu))<;>rfl) (by omega) (by omega) (by omega) ?_;intro l2 w2 PD hg2 hm2)
     have k2:=Kept.J4 hg2
     have hob: ∀b,u9.ownBlock=some b->w.heap.size<=b:=fun b e=>by
      obtain⟨_,_,_,_,_,hq⟩:=Bo aT.out
      exact(hq b e).1
     have oxb: ∀g,u9.ownBlock=some g->g<wr.heap.size:=hlB
     have nb: ∀g T cs,Box w1 g T cs->34≠T->some g∉ [u9.ownBlock] :=fun g T cs hb hne hm=>by
      simp only [List.mem_singleton] at hm
      exact Ac aT.out hb hne hm.symm
     have Ka:=hide (Gg.out.kept k2 (nb _ _ _ Gg.out (by decide)))
     have Uk:=hide (Nf.out.kept k2 (nb _ _ _ Nf.out (by decide)))
     have HE2:=hide (HE1.out.kept k2 (by simp only [List.mem_singleton];exact fun e=>by have:=hlB _ e.symm;omega))
     have gk: ∀T A c,IsG w1 T (gv T.rows T.AB (.slice A (T.rows*T.AB) c))->IsG w2 T (gv T.rows T.AB (.slice A (T.rows*T.AB) c)):=fun T A c ⟨s,h1,h2⟩=>⟨s,h1,Bl h2 k2 (fun b hb hm=>by
      simp only [List.mem_singleton] at hm
      exact Lx h2 aT.out (by decide) (b:=b) hb hm.symm)⟩
     have Nb:=hide (gk _ _ _ Na.out)
     have X7:=hide (gk _ _ _ aU.out)
     have P6:=hide (R7.out.trans (k2.toBelow hoB (fun k hh=>by simp only [List.mem_singleton] at hh;exact hob k hh.symm)))
     have HP2:=hide (show∀p∈M++ [(ev,Value.slice Ax ev.params.length cx)],Dt w2 go l2.ownBlock p from fun p hp=>by
      rcases List.mem_append.1 hp with h | h
      ·exact(nY.out p h).grown hg2 hm2
      ·simp only [List.mem_singleton] at h
       subst h
       exact HPN.out.grown hg2 hm2)
     have HX2:=hide (show Seen w2 w2.heap.size Ax ev.params.length (Br ev.params) by
      obtain⟨A',c',e1,e2,_⟩:=(HP2.out _ (List.mem_append_right _ (List.mem_singleton.2 rfl))).ok
      cases e1
      exact e2)
     have nZ:=hide (show w2.ownsRow w.heap.size 34 7 l2 (j+1) (Fg (M++ [(ev,Value.slice Ax ev.params.length cx)])) by rw [Rv];exact PD)
     have h2s:=P6.out.size
     clear PD hg2 hm2 k2 hob oxb nb gk Gg Nf HE1 Na aU R7 nY HPN HX1 aT x0 x1 x2 x3 x4 x5 x6 hlB hoB
     obtain⟨x0,x1,x2,x3,x4,x5,x6⟩:=Box.seven HE2.out
     go_wp2_with (refine AU Uk.out rfl _ rfl rfl ?_)
     refine(TO.out _ _ _ P6.out HX2.out X7.out).mono ?_
     rintro e w3 ⟨A3,c3,rfl,hc3,hs3,hb3⟩
     have N7:=hide (Ka.out.below hb3 Ka.out.lt)
     have P7:=hide (Uk.out.below hb3 Uk.out.lt)
     have HE3:=hide (HE2.out.below hb3 HE2.out.lt)
     have Nc:=hide (Nb.out.low hb3)
     have X8:=hide (X7.out.low hb3)
     have R8:=hide (P6.out.trans (hb3.mono P6.out.size))
     have HP3:=hide (fun p hp=>(HP2.out p hp).keep hb3)
     have HX3:=hide ((HX2.out.below hb3).more hb3.size)
     have ni:=hide (Bl nZ.out (Kept.of_below (L:= []) hb3) (by simp))
     have cv:=Fy (c:=c3) hs3
     clear hb3 hs3 Ka Uk HE2 Nb X7 P6 HP2 HX2 nZ TO x0 x1 x2 x3 x4 x5 x6
     obtain⟨x0,x1,x2,x3,x4,x5,x6⟩:=Box.seven HE3.out
     go_upto_region 13 with (refine LD rfl (.string (strOfNums (OS++Q))) (gu _ _ OS Q _ _ rfl rfl HSUM.out _ _ _ _ _) ?_)
     clear cv
     go_wp2_with (refine AU P7.out rfl _ rfl rfl ?_)
     refine(DO.out _ _ R8.out HX3.out ⟨_,rfl,X8.out⟩).mono ?_
     rintro e w4 ⟨v4,rfl,⟨x4',rfl,hg4⟩,hb4⟩
     obtain⟨A4,c4,rfl⟩:=Af hg4
     have aV:=hide (N7.out.below hb4 N7.out.lt)
     have R9:=hide (P7.out.below hb4 P7.out.lt)
     have LZ:=hide (Nc.out.low hb4)
     have iB:=hide hg4
     have Ul:=hide (R8.out.trans (hb4.mono R8.out.size))
     have HP4:=hide (fun p hp=>(HP3.out p hp).keep hb4)
     have nu:=hide (Bl ni.out (Kept.of_below (L:= []) hb4) (by simp))
     clear hb4 hg4 N7 P7 Nc X8 R8 HP3 ni HX3 HE3 x0 x1 x2 x3 x4 x5 x6 DO
     go_wp2_with (refine AQ R9.out rfl rfl _ _ rfl rfl rfl rfl ?_;intro w5 hB5 hk5 hs5)
     have ny:=hide (aV.out.kept hk5 (by simp;exact R6))
     have X6:=hide (LZ.out.kept R9.out (by decide) hk5)
     have oC:=hide (iB.out.kept R9.out (by decide) hk5)
     have kT:=hide (Ul.out.trans (hk5.toBelow Ul.out.size (fun k hh=>by simp at hh;omega)))
     have HOW5:=hide (Bl nu.out hk5 (fun b hb hm=>by simp only [List.mem_singleton] at hm;exact Ac nu.out R9.out (by decide) (hb.trans hm)))
     have HP5:=hide (fun p hp=>(HP4.out p hp).store hk5)
     go_roundw
     case rel=>exact⟨j+1,T',A4,c4,M++ [(ev,Value.slice Ax ev.params.length cx)],by omega,by omega,by go_num,by rw [List.length_append,hMl];rfl,by rw [HOS'.out],HTT',HF',HP5,HOW5,ny,hide hB5,X6,oC,kT⟩
     case measure=>simp [intOf];omega
   | false=>
    clear HGO KA
    obtain⟨Al,cl,rfl,hlc,_⟩:=Bo HOW.out
    obtain⟨mo,hmo⟩: ∃m,OS.length=m:=⟨_,rfl⟩
    have RT:=hide (show SN.Ad T from HTT.out▸SN.FZ RS.out _)
    have RA:=hide (fun w' v' (hb:Below wr.heap.size wr w') h=>gT S v' Al j cl M w' T OS mo HTT.out HOS.out hmo RS.out ((X4 HOW.out hMl HPF.out).kept hb) (by omega) hlc HFM.out (fun p hp=>(HPF.out p hp).cap) ((HT.out.keep HLO.out).keep hb) ((HMT.out.keep HLO.out).keep hb) ((HTN.out.keep HLO.out).keep hb) h)
    have hlo:=HLO.out.size
    clear HTT HOS HFM HPF HOW hMl hmo hol
    have iC:=HSs
    have kU:=HSo
    have kV:=HGs
    have oD:=HGo
    have kW:=HLO
    clear HSs HSo HGs HGo HLO
    go_upto_region 14 with fail
    go_wp2_with (first | (refine AU iC.out rfl _ rfl rfl ?_))
    refine(RA.out _ _ (Below.refl _ _) ⟨_,rfl,kV.out⟩).mono ?_
    rintro e w2 ⟨x2,A2,c2,rfl,hc2,hg2,hs2,hb2⟩
    obtain⟨A2',c2',rfl⟩:=Af hg2
    clear RA
    have Gg:=hide (iC.out.below hb2 iC.out.lt)
    have Nf:=hide (kU.out.below hb2 kU.out.lt)
    have Na:=hide (kV.out.low hb2)
    have aU:=hide (oD.out.low hb2)
    have R7:=hide (kW.out.trans (hb2.mono kW.out.size))
    clear iC kU kV oD kW hb2
    have oF:=hide hg2
    clear hg2
    have HBY:=hide hs2
    have iD:=hide (Below.refl w2.heap.size w2)
    clear hs2
    go_upto_region 15 with (first | (refine Bb rfl rfl ?_;intro gt wagt csgt aW hzgt SA hlgt) | (refine AQ aW hzgt rfl _ _ rfl rfl rfl rfl ?_;intro wsgt oG SB hqgt))
    have lx_gt:w2.heap.size<=gt:=by have:=iD.out.size;omega
    have aX:gs≠gt:=by have:=Gg.out.lt;omega
    have aY:go≠gt:=by have:=Nf.out.lt;omega
    have le_gt:w.heap.size<=gt:=by have:=R7.out.size;omega
    have kX:=hide (iD.out.trans (SA.mono iD.out.size))
    clear iD
    have Ka:=hide (Gg.out.below SA Gg.out.lt)
    have Uk:=hide (Nf.out.below SA Nf.out.lt)
    have Nb:=hide (Na.out.low SA)
    have X7:=hide (aU.out.low SA)
    have oH:=hide (oF.out.low SA)
    have P6:=hide (R7.out.trans (SA.mono R7.out.size))
    clear Gg Nf Na aU oF R7 SA
    have kY:=hide (kX.out.trans (SB.toBelow kX.out.size (fun k hh=>by simp at hh;omega)))
    clear kX
    have N7:=hide (Ka.out.kept SB (by simp;first | exact aX | exact Ne.symm oI))
    have P7:=hide (Uk.out.kept SB (by simp;first | exact aY | exact Ne.symm oJ))
    have Nc:=hide (Nb.out.kept aW (by decide) SB)
    have X8:=hide (X7.out.kept aW (by decide) SB)
    have kZ:=hide (oH.out.kept aW (by decide) SB)
    have R8:=hide (P6.out.trans (SB.toBelow P6.out.size (fun k hh=>by simp at hh;omega)))
    clear Ka Uk Nb X7 oH P6
    have iE:=hide oG
    clear oG SB aW hlgt
    go_wp2_with (first | (refine AU iE.out rfl _ rfl rfl ?_) | (refine AU P7.out rfl _ rfl rfl ?_))
    refine(HSC.out T RT.out _ _ _ _ _ kZ.out X8.out).mono ?_
    rintro e w7 ⟨rfl,hb7⟩
    have iF:=hide (kY.out.trans (hb7.mono kY.out.size))
    clear kY
    have aV:=hide (N7.out.below hb7 N7.out.lt)
    have R9:=hide (P7.out.below hb7 P7.out.lt)
    have ko:=hide (iE.out.below hb7 iE.out.lt)
    have LZ:=hide (Nc.out.low hb7)
    have iB:=hide (X8.out.low hb7)
    have oK:=hide (kZ.out.low hb7)
    have Ul:=hide (R8.out.trans (hb7.mono R8.out.size))
    clear N7 P7 iE Nc X8 kZ R8 hb7
    have cv:=Fy (c:=c2) (HBY.out.below iF.out)
    go_wp2_with fail
    refine(RUN.out _ Ul.out).mono ?_
    rintro e w8 ⟨rfl,hb8⟩
    have LX_4:=hide (iF.out.trans (hb8.mono iF.out.size))
    clear iF
    have ny:=hide (aV.out.below hb8 aV.out.lt)
    have HSo5:=hide (R9.out.below hb8 R9.out.lt)
    have HSt3:=hide (ko.out.below hb8 ko.out.lt)
    have X6:=hide (LZ.out.low hb8)
    have oC:=hide (iB.out.low hb8)
    have HGt5:=hide (oK.out.low hb8)
    have kT:=hide (Ul.out.trans (hb8.mono Ul.out.size))
    clear aV R9 ko LZ iB oK Ul hb8
    go_wp2_with fail
    go_ret
    exact⟨rfl,kT.out⟩
end Go.Proofs.YtoaabebgmdbjeaaGreatDoor
namespace Go.Proofs.YtoaabebgmdbjeaaGreatDoor
open Go.RowKit
theorem P8 (rw cl:Int) (Ap:Option Addr) (np cp:Nat) (lp:List Int) (At:Option Addr) (nt ct:Nat) (lt:List Int) (a b c d e p q r u:Int) (Ak:Option Addr) (nk ck:Nat) (ask:Int) (w:World)
  (hr:(Lit.int .i64 rw).wf=true) (hc:(Lit.int .i64 cl).wf=true) (hp:Arg .i64 w Ap np cp lp) (ht:Arg .i64 w At nt ct lt) (ha:(Lit.int .i64 a).wf=true) (hb:(Lit.int .i64 b).wf=true) (hc':(Lit.int .i64 c).wf=true) (hd:(Lit.int .i64 d).wf=true) (he:(Lit.int .i64 e).wf=true)
  (hp0:(Lit.int .i64 p).wf=true) (hp1:(Lit.int .i64 q).wf=true) (hp2:(Lit.int .i64 r).wf=true) (hu:(Lit.int .u64 u).wf=true) (hka:Oq w Ak nk) (hnl:nk<=maxLen) (aS:(Lit.int .i64 ask).wf=true) (h1:FV w) (h2:Gs w) (h3:KH w) (h4:DZ w) (h5:IW w) (h6:KO w):
  Calls Tryz.prog 9 #[.agg #[.int .i64 rw,.int .i64 cl,.slice Ap np cp,.slice At nt ct,.int .i64 a,.int .i64 b,.int .i64 c,.int .i64 d,.int .i64 e,.int .i64 p,.int .i64 q,.int .i64 r,.int .u64 u],.slice Ak nk ck,.int .i64 ask] w fun e w'=>e=.returned (.bool true)/\Below w.heap.size w w':=by
 obtain⟨S,hS,hR5,hK9,KS⟩:=TI rw cl Ap np cp lp At nt ct lt a b c d e p q r u w hr hc hp ht ha hb hc' hd he hp0 hp1 hp2 hu
 exact Uj _ Ak nk ck ask S w rfl hS hR5 hK9 ⟨h1,h2,h3,h4⟩ h5 h6 hka hnl (bounds_i64 aS) KS
end Go.Proofs.YtoaabebgmdbjeaaGreatDoor
