/- ReplyPlaces: wherever the cursor is, it is told there; modes are told as they are set. (written by tools/genreplyplaces.py) -/
import Derived.Test.YtoaabebgmdbjeaaGreatDoorRp20
import Derived.Test.YtoaabebgmdbjeaaGreatDoorRp27
set_option maxRecDepth 100000
set_option maxHeartbeats 16000000
set_option linter.unusedVariables false
namespace Go.Proofs.YtoaabebgmdbjeaaGreatDoor
open Go Go.RowKit
def RP.wi (n hi:Int):Int:=0+n%(hi-0+1)
def AskB (w:World) (g:Nat):Prop:= ∃A c,Box w g 34 #[.int .i64 4,.int .i32 0,.int .u8 0,.int .u8 0,.int .u8 110,.slice A 1 c,.string ⟨#[]⟩] /\1<=c/\Seen w w.heap.size A 1 (CG [6])
def RP.Tc (m c:Nat):List Int:=27::91::(PA.Cj (m+1)++59::(PA.Cj (c+1)++ [82]))
theorem Qs (s:SN.Sc):RP.said s 4 0 0 110 [6] =RP.Tc (if s.org then s.row-s.top else s.row) s.col:=by
 unfold RP.said RP.Tc
 rw [if_neg (by decide),if_neg (by decide),if_neg (by decide),if_neg (by decide),if_pos (by decide)]
 simp
theorem XB (F:SN.Sc) (n:Nat) (on:Bool) (T:SN.Sc) (hT:SN.Di F n on=T) (ch:Int) (hch:ch=if on then 49 else 50) (hn:SN.Cu n):RP.said T 4 63 36 112 [(n:Int)] =27::91::63::(PA.Cj n++59::ch:: [36,121]):=by
 subst hT
 have hf:RP.first [(n:Int)] =n:=by
  unfold RP.first
  simp
  omega
 unfold RP.said
 rw [if_neg (by decide),if_pos (by decide),hf,SN.Rs F hn on,hch]
 cases on<;>simp
theorem M5 (kcs:Array Value) (rr cc:Int) (on:Bool) (S:SN.Sc) (w:World) (hk13:kcs.size=13) (hS:SN.Ab S) (hR5:S.g.rows<=5) (hK9:S.g.AB<=9) (hT:Jr w) (hM:Ia w) (hTN:J9 w)
  (hrr: -9223372036854775808<=rr/\rr<=9223372036854775807) (hcc: -9223372036854775808<=cc/\cc<=9223372036854775807)
  (KS:Hid (∀w',Below w.heap.size w w'->Calls Tryz.prog 11 #[.agg kcs] w' (Au w' S))):
  Calls Tryz.prog 10 #[.agg kcs,.int .i64 rr,.int .i64 cc,.bool on] w fun e w'=>e=.returned (.bool true)/\Below w.heap.size w w':=by
 have LO0:=hide (Below.refl w.heap.size w)
 obtain⟨R,hR⟩: ∃R,S.g.rows=R:=⟨_,rfl⟩
 obtain⟨K,hK⟩: ∃K,S.g.AB=K:=⟨_,rfl⟩
 have hR1:1<=R:=hR▸hS.g.1
 have hK1:1<=K:=hK▸hS.g.2.2.1
 rw [hR] at hR5
 rw [hK] at hK9
 obtain⟨y,hy⟩: ∃y:Nat,RP.wi rr ((R:Int)-1)=(y:Int):=⟨(RP.wi rr ((R:Int)-1)).toNat,by
  have a:=Int.emod_nonneg rr (show(R:Int)-1-0+1≠0 by omega)
  unfold RP.wi;omega⟩
 obtain⟨x,hx⟩: ∃x:Nat,RP.wi cc ((K:Int)-1)=(x:Int):=⟨(RP.wi cc ((K:Int)-1)).toNat,by
  have a:=Int.emod_nonneg cc (show(K:Int)-1-0+1≠0 by omega)
  unfold RP.wi;omega⟩
 have hyR:y<R:=by
  have b:=Int.emod_lt_of_pos rr (show 0<(R:Int)-1-0+1 by omega)
  unfold RP.wi at hy;omega
 have hxK:x<K:=by
  have b:=Int.emod_lt_of_pos cc (show 0<(K:Int)-1-0+1 by omega)
  unfold RP.wi at hx;omega
 have WI:=hide (fun (n hi:Int) (h:(n=rr/\hi=(R:Int)-1)\/(n=cc/\hi=(K:Int)-1)) w'=>Bj n 0 hi (RP.wi n hi) rfl w' (by rcases h with ⟨rfl,rfl⟩ | ⟨rfl,rfl⟩<;>omega) (by rcases h with ⟨rfl,rfl⟩ | ⟨rfl,rfl⟩<;>omega) (by omega) (by rcases h with ⟨rfl,rfl⟩ | ⟨rfl,rfl⟩<;>omega) (by rcases h with ⟨rfl,rfl⟩ | ⟨rfl,rfl⟩<;>omega))
 have HY:=hide hy
 have HXX:=hide hx
 obtain⟨F1,hF1⟩: ∃F,(S.u16 false).u5 false=F:=⟨_,rfl⟩
 obtain⟨F,hF⟩: ∃F,(F1.u3 y).u4 x=F:=⟨_,rfl⟩
 have hFg:F.g=S.g:=by subst hF hF1;rfl
 have mM:F1.g=S.g:=by subst hF1;rfl
 have hFo:F.org=false:=by subst hF hF1;rfl
 have hFt:F.top=S.top:=by subst hF hF1;rfl
 have hFr:F.row=y:=by subst hF hF1;rfl
 have hFc:F.col=x:=by subst hF hF1;rfl
 have RF:SN.Ab F:=by subst hF hF1;exact⟨hS.g,(by show y<S.g.rows;omega),(by show x<S.g.AB;omega),hS.bot,hS.top,hS.pen,hS.tabs,hS.set,(fun e=>nomatch e),hS.sv⟩
 obtain⟨FO,hFO⟩: ∃FO,F.u16 true=FO:=⟨_,rfl⟩
 have hOg:FO.g=S.g:=by subst hFO;exact hFg
 have htp:S.top<=4:=by have:=hS.top;have:=hS.bot;omega
 have b1:F.row<=60000/\F.col<=60000/\F.top<=60000:=⟨by omega,by omega,by omega⟩
 have b2:FO.row<=60000/\FO.col<=60000/\FO.top<=60000:=by subst hFO;exact b1
 obtain⟨m,hm⟩: ∃m,y-S.top=m:=⟨_,rfl⟩
 obtain⟨DY,hDY⟩: ∃D,PA.Cj (y+1)=D:=⟨_,rfl⟩
 obtain⟨DX,hDX⟩: ∃D,PA.Cj (x+1)=D:=⟨_,rfl⟩
 obtain⟨DM,hDM⟩: ∃D,PA.Cj (m+1)=D:=⟨_,rfl⟩
 have ZY:=hide (show DY.length<=21 from hDY▸Dz 20 _)
 have ZX:=hide (show DX.length<=21 from hDX▸Dz 20 _)
 have ZM:=hide (show DM.length<=21 from hDM▸Dz 20 _)
 have LY:=hide (Da DY)
 have LX_:=hide (Da DX)
 have LM:=hide (Da DM)
 have NY:=fun (w':World)=>(show Calls Tryz.prog 34 #[.int .i64 ((y:Int)+1)] w' fun (e:Ending) w''=>e=Ending.returned (Value.string (strOfNums (PA.Cj (y+1))))/\Below w'.heap.size w' w'' from K5 (y+1) (by omega) w')
 rw [hDY] at NY
 have NY:=hide NY
 have NX:=fun (w':World)=>(show Calls Tryz.prog 34 #[.int .i64 ((x:Int)+1)] w' fun (e:Ending) w''=>e=Ending.returned (Value.string (strOfNums (PA.Cj (x+1))))/\Below w'.heap.size w' w'' from K5 (x+1) (by omega) w')
 rw [hDX] at NX
 have NX:=hide NX
 have NM:=fun (w':World)=>(show Calls Tryz.prog 34 #[.int .i64 ((m:Int)+1)] w' fun (e:Ending) w''=>e=Ending.returned (Value.string (strOfNums (PA.Cj (m+1))))/\Below w'.heap.size w' w'' from K5 (m+1) (by omega) w')
 rw [hDM] at NM
 have NM:=hide NM
 have s1:RP.said F 4 0 0 110 [6] =27::91::(DY++59::(DX++ [82])):=by rw [Qs,hFo,hFr,hFc, <- hDY, <- hDX];rfl
 have s2:RP.said FO 4 0 0 110 [6] =27::91::(DM++59::(DX++ [82])):=by
  rw [Qs]
  subst hFO
  show RP.Tc (if true=true then F.row-F.top else F.row) F.col=_
  rw [if_pos rfl,hFr,hFc,hFt,hm, <- hDM, <- hDX]
  rfl
 have DOM:=hide (fun (n:Nat) (hn:n<=25) (fn:Int) (hf:fn=if on then 104 else 108) (T:SN.Sc) (hTT:SN.Di F n on=T) (w':World) v' g (hw:Below w.heap.size w w') (hb:Box w' g 3 #[.int .i64 (n:Nat)]) h=>(show SN.doS F 4 0 63 0 fn [(n:Int)] =T by subst hf hTT;cases on<;>rfl)▸TY F v' 4 0 63 0 fn (some ⟨g,0,none⟩) 1 1 w'.heap.size ⟨#[]⟩ [(n:Int)] w' RF (Seen.DI hb rfl rfl hb.lt) (Nat.le_refl _) (by omega) (Nat.le_refl _) (by simp;omega) (by decide) (hT.keep hw) h)
 have TOM:=hide (fun (n:Nat) (hn:SN.Cu n) (hn25:n<=25) (T:SN.Sc) (hTT:SN.Di F n on=T) (ch:Int) (hch:ch=if on then 49 else 50) (mm:Nat) (hmm:(27::91::63::(PA.Cj n++59::ch:: [36,121])).length=mm) (w':World) A c A' c' (hw:Below w.heap.size w w') (hl:Seen w' w'.heap.size A' 1 (CG [(n:Int)])) (h:IsG w' T.g (gv T.g.rows T.g.AB (.slice A (T.g.rows*T.g.AB) c)))=>
  Oh T (.slice A (T.g.rows*T.g.AB) c) 4 0 63 36 112 A' 1 c' w'.heap.size ⟨#[]⟩ [(n:Int)] w' (27::91::63::(PA.Cj n++59::ch:: [36,121])) _ (XB F n on T hTT ch hch hn) hmm (by subst hTT;have:=(SN.Dx RF n on).row;rw [SN.Rq,hFg,hR] at this;omega) (by subst hTT;have:=(SN.Dx RF n on).col;rw [SN.Rq,hFg,hK] at this;omega) (by subst hTT;rw [SN.YB];omega) rfl hl (Nat.le_refl _) (by simp;omega) (hM.keep hw) (hTN.keep hw) ⟨_,rfl,h⟩)
 have DOT:=hide (fun (n:Nat) (hn25:n<=25) (T:SN.Sc) (hTT:SN.Di F n on=T) (w':World) v' A' c' (hw:Below w.heap.size w w') (hc:1<=c') (hl:Seen w' w'.heap.size A' 1 (CG [(n:Int)])) h=>(show SN.doS T 4 0 63 36 112 [(n:Int)] =T by rfl)▸TY T v' 4 0 63 36 112 A' 1 c' w'.heap.size ⟨#[]⟩ [(n:Int)] w' (hTT▸SN.Dx RF n on) hl (Nat.le_refl _) (by omega) hc (by simp;omega) (by decide) (hT.keep hw) h)
 have HST:=hide (fun (n:Nat) (T:SN.Sc) (hTT:SN.Di F n on=T) (w':World) A A' c c' h h'=>MJ T A A' c c' w' (by subst hTT;rw [SN.Rq,hFg,hR,hK];exact Nat.le_trans (Nat.mul_le_mul hR5 hK9) (by omega)) h h')
 obtain⟨n1,hn1⟩: ∃n,(27::91::(DY++59::(DX++ [82]))).length=n:=⟨_,rfl⟩
 obtain⟨n2,hn2⟩: ∃n,(27::91::(DM++59::(DX++ [82]))).length=n:=⟨_,rfl⟩
 have TO1:=hide (fun (w':World) A c A' c' (hw:Below w.heap.size w w') (hl:Seen w' w'.heap.size A' 1 (CG [6])) (h:IsG w' F.g (gv F.g.rows F.g.AB (.slice A (F.g.rows*F.g.AB) c)))=>
  Oh F (.slice A (F.g.rows*F.g.AB) c) 4 0 0 0 110 A' 1 c' w'.heap.size ⟨#[]⟩ [6] w' _ _ s1 hn1 b1.1 b1.2.1 b1.2.2 rfl hl (Nat.le_refl _) (by decide) (hM.keep hw) (hTN.keep hw) ⟨_,rfl,h⟩)
 have TO2:=hide (fun (w':World) A c A' c' (hw:Below w.heap.size w w') (hl:Seen w' w'.heap.size A' 1 (CG [6])) (h:IsG w' FO.g (gv FO.g.rows FO.g.AB (.slice A (FO.g.rows*FO.g.AB) c)))=>
  Oh FO (.slice A (FO.g.rows*FO.g.AB) c) 4 0 0 0 110 A' 1 c' w'.heap.size ⟨#[]⟩ [6] w' _ _ s2 hn2 b2.1 b2.2.1 b2.2.2 rfl hl (Nat.le_refl _) (by decide) (hM.keep hw) (hTN.keep hw) ⟨_,rfl,h⟩)
 have CSI:=hide (Oi 110 6 (by decide))
 have DO6:=hide (fun (w':World) v' A' c' (hw:Below w.heap.size w w') (hc:1<=c') (hl:Seen w' w'.heap.size A' 1 (CG [6])) h=>(show SN.doS F 4 0 0 0 110 [6] =F by rfl)▸TY F v' 4 0 0 0 110 A' 1 c' w'.heap.size ⟨#[]⟩ [6] w' RF hl (Nat.le_refl _) (by omega) hc (by decide) (by decide) (hT.keep hw) h)
 have NUM:=hide (fun (n:Nat) (h:n<=100000) w'=>K5 n h w')
 have RUN:=hide (fun w' (hw:Below w.heap.size w w')=>Mx w' (hM.keep hw) (hTN.keep hw))
 have HSC:=hide (fun (w':World) A A' c c' h h'=>MJ F A A' c c' w' (by rw [hFg,hR,hK];exact Nat.le_trans (Nat.mul_le_mul hR5 hK9) (by omega)) h h')
 have HF1:=hide hF1
 have HFF:=hide hF
 have HFO:=hide hFO
 have HG1:=hide mM
 have HGF:=hide hFg
 have HGO:=hide hOg
 have HRF:=hide RF
 have HFC:=hide hFc
 have HFR:=hide hFr
 have HFT:=hide hFt
 have HR:=hide hR
 have HK:=hide hK
 have HMM:=hide hm
 have HT:=hide hT
 have HM:=hide hM
 have HTN:=hide hTN
 clear hT hM hTN hF1 hF hFO mM hFg hOg RF hFc hFr hFt hR hK hm s1 s2 hS hy hx hrr hcc hFo b1 b2 hDY hDX hDM hn1 hn2
 go_enter Tryz.func10,Tryz.ntmps10
 go_wp2_with (first | (refine Mf hk13 rfl _ rfl rfl ?_;intro gk wk hKB hbk hlk) | (refine Lf hKB rfl _ rfl rfl ?_))
 have LO1:=hide (LO0.out.trans (hbk.mono LO0.out.size))
 clear LO0 hbk
 refine(KS.out _ LO1.out).mono ?_
 rintro e wb1 ⟨v1,rfl,⟨x1,rfl,hg1⟩,hb1⟩
 have LO2:=hide (LO1.out.trans (hb1.mono LO1.out.size))
 clear LO1 hb1
 obtain⟨A1,c1,rfl⟩:=Ac hg1
 have Y0:=hide hg1
 clear hg1
 go_upto_region 2 with (first | (refine BQ rfl rfl ?_;intro gs wags csgs TD jC TF jD) | (refine AV TD jC rfl _ _ rfl rfl rfl rfl ?_;intro TG Y1 TH jE))
 have mE:w.heap.size<=gs:=by have:=LO2.out.size;omega
 have Y2:=hide (Y0.out.low TF)
 have LO3:=hide (LO2.out.trans (TF.mono LO2.out.size))
 clear Y0 LO2 TF
 have Y3:=hide (Y2.out.kept TD (by decide) TH)
 have LO4:=hide (LO3.out.trans (TH.toBelow LO3.out.size (fun k hh=>by simp at hh;omega)))
 clear Y2 LO3
 have JN:=hide Y1
 clear Y1 TH TD jD
 clear jE
 go_simp
 have jP:=JN.out.fz 5
 have eB:=JN.out.fz 16
 have jQ:=(show _=some (.bool S.pend:Value) from JN.out.c5)
 have eD:=(show _=some (.bool S.org:Value) from JN.out.c16)
 go_upto_region 3 with fail
 have hkp:=(((Kept.refl [some gs] TG).setCell (p:=⟨gs,16,none⟩) (From.mem (by simp)) (.bool false)).setCell (p:=⟨gs,5,none⟩) (From.mem (by simp)) (.bool false))
 have hsp:Aj ((TG.setCell ⟨gs,16,none⟩ (.bool false)).setCell ⟨gs,5,none⟩ (.bool false)) gs _ _:=((JN.out.Pq false).JD false)
 generalize ((TG.setCell ⟨gs,16,none⟩ (.bool false)).setCell ⟨gs,5,none⟩ (.bool false))=w3 at hkp hsp⊢
 have Ql:=hide (Y3.out.kept JN.out (by decide) hkp)
 have LO5:=hide (LO4.out.trans (hkp.toBelow LO4.out.size (fun k hh=>by simp at hh;omega)))
 clear Y3 LO4
 have JO:=hide hsp
 clear hsp hkp JN
 clear jP eB jQ eD
 simp only [HF1.out] at*
 rw [<- HG1.out] at Ql JO
 have jR:=(show _=some (.int .i64 (R:Nat):Value) from(JO.out.c0).trans (by first | (rw [HG1.out,HR.out];done) | (rw [HG1.out,HR.out];rfl)))
 have jS:=(show _=some (.int .i64 (K:Nat):Value) from(JO.out.c1).trans (by first | (rw [HG1.out,HK.out];done) | (rw [HG1.out,HK.out];rfl)))
 have TI:=JO.out.fz 3
 have TL:=JO.out.fz 4
 obtain⟨z3,hz3⟩: ∃z:Nat,w3.cell? ⟨gs,3,none⟩=some (.int .i64 z):=⟨_,JO.out.c3⟩
 obtain⟨z4,hz4⟩: ∃z:Nat,w3.cell? ⟨gs,4,none⟩=some (.int .i64 z):=⟨_,JO.out.c4⟩
 have hwR:IntKind.i64.wrap ((R:Int)-1)=(R:Int)-1:=IntWalk.i64_in _ (by omega)
 have hwK:IntKind.i64.wrap ((K:Int)-1)=(K:Int)-1:=IntWalk.i64_in _ (by omega)
 have hRI:(1:Int)<=(R:Int):=by omega
 have hKI:(1:Int)<=(K:Int):=by omega
 go_simp
 go_cut [] from 26 to 39 (fun wx=>Kept [some gs] w3 wx/\Aj wx gs (.slice A1 (F1.g.rows*F1.g.AB) c1) F)
 case first=>
  go_region_with (first | (go_at_call 20;refine(WI.out _ _ (by first | exact .inl ⟨rfl,rfl⟩ | exact .inr ⟨rfl,rfl⟩) _).mono ?_;rintro e w' ⟨rfl,rfl⟩))
  all_goals
   simp only [HY.out,HXX.out]
   go_wp2_with fail
   go_meet
   exact⟨(((Kept.refl [some gs] w3).setCell (p:=⟨gs,3,none⟩) (From.mem (by simp)) (.int .i64 (y:Nat))).setCell (p:=⟨gs,4,none⟩) (From.mem (by simp)) (.int .i64 (x:Nat))).drew,HFF.out▸Box.drew ((JO.out.Cb y).Rk x)⟩
 case rest=>
  clear jR jS TI TL
  obtain⟨hkp,hsp⟩:=hcut
  rename World=>w4
  clear hz3 hz4 hwR hwK hRI hKI WI HY HXX
  have jT:=hide (Ql.out.kept JO.out (by decide) hkp)
  have LO6:=hide (LO5.out.trans (hkp.toBelow LO5.out.size (fun k hh=>by simp at hh;omega)))
  clear Ql LO5
  rw [HG1.out, <- HGF.out] at jT
  rw [HG1.out, <- HGF.out] at hsp
  have jU:=hide hsp
  clear hsp hkp JO
  go_wp2_with fail
  refine(CSI.out _ _ (Box.new w4 3 #[.int .i64 6])).mono ?_
  rintro e w5 ⟨A5,c5,rfl,hc5,r5,b5⟩
  have b5:=((Below.refl w4.heap.size w4).alloc (Nat.le_refl _) (.cells #[.int .i64 6] 3)).trans (b5.mono (by simp))
  clear CSI
  have eF:=hide (jU.out.below b5 jU.out.lt)
  have mO:=hide (jT.out.low b5)
  have LO7:=hide (LO6.out.trans (b5.mono LO6.out.size))
  clear jU jT LO6 b5
  go_upto_region 5 with (refine En (ds:= #[.int .i64 4,.int .i32 0,.int .u8 0,.int .u8 0,.int .u8 110,.slice A5 1 c5,.string ⟨#[]⟩]) (Box.new w5 34 #[.int .i64 0,.int .i32 0,.int .u8 0,.int .u8 0,.int .u8 0,.slice none 0 0,.string ⟨#[]⟩]) rfl rfl _ _ _ rfl rfl rfl (by kernel_rfl) (by simp [Value.oneCell']) ?_;intro w6 hB6 hk6 hs6)
  have ha6:Below w5.heap.size w5 (w5.alloc (.cells #[.int .i64 0,.int .i32 0,.int .u8 0,.int .u8 0,.int .u8 0,.slice none 0 0,.string ⟨#[]⟩] 34)):=(Below.refl w5.heap.size w5).alloc (Nat.le_refl _) _
  have hkk:Below w5.heap.size w5 w6:=ha6.trans (hk6.toBelow (by simp) (fun k hh=>by simp at hh;omega))
  obtain⟨ga,hga⟩: ∃g,w5.heap.size=g:=⟨_,rfl⟩
  have mP:gs≠ga:=by have:=eF.out.lt;omega
  have HA6:=hide (show AskB w6 ga from⟨A5,c5,hga▸hB6,hc5,(r5.1.below hkk).more hkk.size⟩)
  have le_ga:w.heap.size<=ga:=by have:=LO7.out.size;omega
  simp only [hga]
  clear r5 hc5 hB6 hk6 hs6 ha6 hga b5
  have eG:=hide (eF.out.below hkk eF.out.lt)
  have jV:=hide (mO.out.low hkk)
  have LO8:=hide (LO7.out.trans (hkk.mono LO7.out.size))
  clear eF mO LO7 hkk
  have LX0:=hide (Below.refl w6.heap.size w6)
  obtain⟨Aa,ca,hab,hca,mQ⟩:=HA6.out
  have HAB:=hide hab
  have HAS:=hide mQ
  clear HA6 hab mQ
  obtain⟨e0,e1,e2,e3,e4,e5,e6⟩:=Box.seven (HAB.out.below LX0.out HAB.out.lt)
  go_wp2_with (first | (refine AX eG.out rfl _ rfl rfl ?_))
  refine(TO1.out _ _ _ _ _ LO8.out ((HAS.out.below LX0.out).more LX0.out.size) jV.out).mono ?_
  rintro e w7 ⟨A7,c7,rfl,hc7,h7s,h7⟩
  clear e0 e1 e2 e3 e4 e5 e6
  have LX1:=hide (LX0.out.trans (h7.mono LX0.out.size))
  clear LX0
  have ZW:=hide (eG.out.below h7 eG.out.lt)
  have mR:=hide (jV.out.low h7)
  have LO9:=hide (LO8.out.trans (h7.mono LO8.out.size))
  clear eG jV LO8 h7
  have cv:=Ed (c:=c7) h7s
  go_upto_region 6 with fail
  clear cv h7s hc7
  go_upto_region 7 with (first | (refine BQ rfl rfl ?_;intro gu wagu csgu jW hzgu Za hlgu) | (refine AV jW hzgu rfl _ _ rfl rfl rfl rfl ?_;intro jX mU Zb hqgu) | (refine AX ZW.out rfl _ rfl rfl ?_))
  have LX_gu:w6.heap.size<=gu:=by have:=LX1.out.size;omega
  have Qt:gs≠gu:=by have:=ZW.out.lt;omega
  have le_gu:w.heap.size<=gu:=by have:=LO9.out.size;omega
  have LX2:=hide (LX1.out.trans (Za.mono LX1.out.size))
  clear LX1
  have mV:=hide (ZW.out.below Za ZW.out.lt)
  have mW:=hide (mR.out.low Za)
  have jY:=hide (LO9.out.trans (Za.mono LO9.out.size))
  clear ZW mR LO9 Za
  have LX3:=hide (LX2.out.trans (Zb.toBelow LX2.out.size (fun k hh=>by simp at hh;omega)))
  clear LX2
  have mX:=hide (mV.out.kept Zb (by simp;first | exact Qt | exact Ne.symm Zc))
  have fI:=hide (mW.out.kept jW (by decide) Zb)
  have jZ:=hide (jY.out.trans (Zb.toBelow jY.out.size (fun k hh=>by simp at hh;omega)))
  clear mV mW jY
  have Zd:=hide mU
  clear mU Zb jW hlgu
  clear hqgu
  go_simp
  have eH:=Zd.out.fz 16
  have eO:=(show _=some (.bool F.org:Value) from Zd.out.c16)
  go_upto_region 8 with fail
  have hkp:=((Kept.refl [some gu] jX).setCell (p:=⟨gu,16,none⟩) (From.mem (by simp)) (.bool true))
  have hsp:Aj (jX.setCell ⟨gu,16,none⟩ (.bool true)) gu _ _:=(Zd.out.Pq true)
  generalize (jX.setCell ⟨gu,16,none⟩ (.bool true))=w8 at hkp hsp⊢
  have LX4:=hide (LX3.out.trans (hkp.toBelow LX3.out.size (fun k hh=>by simp at hh;omega)))
  clear LX3
  have jc:=hide (mX.out.kept hkp (by simp;first | exact Qt | exact Ne.symm Zc))
  have Ze:=hide (fI.out.kept Zd.out (by decide) hkp)
  have eP:=hide (jZ.out.trans (hkp.toBelow jZ.out.size (fun k hh=>by simp at hh;omega)))
  clear mX fI jZ
  have Zf:=hide hsp
  clear hsp hkp Zd
  clear eH eO
  simp only [HFO.out] at*
  rw [HGF.out, <- HGO.out] at Zf
  have mY:=hide (show IsG w8 FO.g (gv FO.g.rows FO.g.AB (.slice A1 (FO.g.rows*FO.g.AB) c1)) by rw [HGO.out, <- HGF.out];exact Ze.out)
  obtain⟨e0,e1,e2,e3,e4,e5,e6⟩:=Box.seven (HAB.out.below LX4.out HAB.out.lt)
  go_wp2_with (first | (refine AX Zf.out rfl _ rfl rfl ?_))
  refine(TO2.out _ _ _ _ _ eP.out ((HAS.out.below LX4.out).more LX4.out.size) mY.out).mono ?_
  rintro e w9 ⟨A9,c9,rfl,hc9,h9s,h9⟩
  clear e0 e1 e2 e3 e4 e5 e6
  clear mY
  have LX5:=hide (LX4.out.trans (h9.mono LX4.out.size))
  clear LX4
  have Ue:=hide (jc.out.below h9 jc.out.lt)
  have jd:=hide (Zf.out.below h9 Zf.out.lt)
  have fJ:=hide (Ze.out.low h9)
  have je:=hide (eP.out.trans (h9.mono eP.out.size))
  clear jc Zf Ze eP h9
  have cv:=Ed (c:=c9) h9s
  go_upto_region 9 with fail
  clear cv h9s hc9
  have TN:=(show _=some (.int .i64 (x:Nat):Value) from(Ue.out.c4).trans (by first | (rw [HFC.out];done) | (rw [HFC.out];rfl)))
  go_simp
  go_cut [14] from 52 to 57 (fun u wx=>u=.string (strOfNums (59::(DX++ [82])))/\Below w9.heap.size w9 wx)
  case first=>
   go_wp2_with fail
   refine(NX.out _).mono ?_
   rintro e wn ⟨rfl,hnb⟩
   have z1:=LX_.out
   have z2:=ZX.out
   go_wp2_with fail
   go_meet
   exact⟨congrArg Value.string (by show strOfNums [59] ++strOfNums DX++strOfNums [82] =_;rw [D6,D6];simp),hnb⟩
  case rest=>
   clear TN
   obtain⟨rfl,hcb⟩:=hcut
   rename World=>w10
   have LX6:=hide (LX5.out.trans (hcb.mono LX5.out.size))
   clear LX5
   have Qu:=hide (Ue.out.below hcb Ue.out.lt)
   have jf:=hide (jd.out.below hcb jd.out.lt)
   have fK:=hide (fJ.out.low hcb)
   have jg:=hide (je.out.trans (hcb.mono je.out.size))
   clear Ue jd fJ je hcb
   go_upto_region 10 with fail
   have TM:=(show _=some (.int .i64 (y:Nat):Value) from(Qu.out.c3).trans (by first | (rw [HFR.out];done) | (rw [HFR.out];rfl)))
   have jh:=(show _=some (.int .i64 (S.top:Nat):Value) from(Qu.out.c6).trans (by first | (rw [HFT.out];done) | (rw [HFT.out];rfl)))
   go_cut [15] from 58 to 64 (fun u wx=>u=.int .i64 ((m:Int)+1)/\wx=w10)
   case first=>
    have hm2:max ((y:Int)-(S.top:Int)) 0+1=(m:Int)+1:=by have:=HMM.out;omega
    have HM2:=hide hm2
    clear hm2
    rcases Int.lt_trichotomy ((y:Int)-(S.top:Int)) 0 with ha | ha | ha
    ·have hb:(y:Int)-(S.top:Int)<=0:=by omega
     go_wp2_with fail
     go_meet
     exact⟨by rw [<- HM2.out],rfl⟩
    ·have HA:=hide ha
     clear ha
     have hb:(y:Int)-(S.top:Int)<=0:=by rw [HA.out];omega
     go_wp2_with fail
     go_meet
     exact⟨by rw [<- HM2.out],rfl⟩
    ·have hb:0<=(y:Int)-(S.top:Int):=by omega
     go_wp2_with fail
     go_meet
     exact⟨by rw [<- HM2.out],rfl⟩
   case rest=>
    clear TM jh
    obtain⟨rfl,hw⟩:=hcut
    subst hw
    rename World=>w10
    go_wp2_with fail
    have hli:=Box.new w10 3 #[.int .i64 1,.int .i64 6,.int .i64 7,.int .i64 25]
    have hlb:=(Below.refl w10.heap.size w10).alloc (Nat.le_refl _) (.cells #[.int .i64 1,.int .i64 6,.int .i64 7,.int .i64 25] 3)
    generalize w10.alloc (.cells #[.int .i64 1,.int .i64 6,.int .i64 7,.int .i64 25] 3)=wl at hli hlb⊢
    obtain⟨gl,hgl⟩: ∃g,w10.heap.size=g:=⟨_,rfl⟩
    rw [hgl] at hli
    simp only [hgl]
    have LX7:=hide (LX6.out.trans (hlb.mono LX6.out.size))
    clear LX6
    have Zg:=hide (Qu.out.below hlb Qu.out.lt)
    have ji:=hide (jf.out.below hlb jf.out.lt)
    have fM:=hide (fK.out.low hlb)
    have jk:=hide (jg.out.trans (hlb.mono jg.out.size))
    clear Qu jf fK jg hlb
    have HLI:=hide hli
    clear hli hgl
    go_loopw [67] (fun u wr=> ∃i:Nat,i<=4/\u=.int .i64 (i:Nat)/\Below wl.heap.size wl wr) (fun u _=>4-(intOf u).toNat)
    case atStart=>exact⟨0,by omega,rfl,Below.refl _ _⟩
    case round=>
     obtain⟨i,hi4,rfl,hL⟩:=hrel
     have HL0:=hide hL
     have mZ:=hide (HLI.out.below hL HLI.out.lt)
     have LX8:=hide (LX7.out.trans (hL.mono LX7.out.size))
     clear LX7
     have Me:=hide (Zg.out.below hL Zg.out.lt)
     have jl:=hide (ji.out.below hL ji.out.lt)
     have Uf:=hide (fM.out.low hL)
     have Om:=hide (jk.out.trans (hL.mono jk.out.size))
     clear Zg ji fM jk hL
     rename World=>wr
     by_cases hlt:i<4
     ·skip
      obtain⟨n,hnm,hn25,kc⟩: ∃n:Nat,SN.Cu (n:Int)/\n<=25/\wr.cell? ⟨gl,i,none⟩=some (.int .i64 (n:Nat)):=by
       have h:=mZ.out.cell i
       match i,hlt with
       | 0,_=>exact⟨1,.inl rfl,by omega,h⟩
       | 1,_=>exact⟨6,.inr (.inl rfl),by omega,h⟩
       | 2,_=>exact⟨7,.inr (.inr (.inl rfl)),by omega,h⟩
       | 3,_=>exact⟨25,.inr (.inr (.inr rfl)),by omega,h⟩
      have hiI:(i:Int)<4:=by omega
      obtain⟨fn,hfn⟩: ∃fn:Int,fn=if on then 104 else 108:=⟨_,rfl⟩
      obtain⟨cx,hcx⟩: ∃ch:Int,ch=if on then 49 else 50:=⟨_,rfl⟩
      obtain⟨T,hTT⟩: ∃T,SN.Di F n on=T:=⟨_,rfl⟩
      have HFN:=hide hfn
      have HCX:=hide hcx
      have HTT:=hide hTT
      have HNM:=hide hnm
      clear hfn hcx hTT hnm
      go_upto_if 71 with fail
      go_cut [18,19] from 69 to 71 (fun u v wx=>u=.int .u8 fn/\v=.string (strOfNums [cx])/\wx=wr)
      case first=>
       have hf:=HFN.out
       have hc:=HCX.out
       cases on
       all_goals
        have HF2:=hide hf
        have HC2:=hide hc
        clear hf hc
        go_wp2_with fail
        go_meet
        exact⟨by rw [HF2.out];rfl,by rw [HC2.out];rfl,rfl⟩
      case rest=>
       obtain⟨rfl,rfl,hw⟩:=hcut
       subst hw
       rename World=>wr
       have LW0:=hide (Below.refl wr.heap.size wr)
       go_wp2_with (first | (refine AX Me.out rfl _ rfl rfl ?_))
       have hpn:=Box.new wr 3 #[.int .i64 (n:Nat)]
       have hpb:=(Below.refl wr.heap.size wr).alloc (Nat.le_refl _) (.cells #[.int .i64 (n:Nat)] 3)
       generalize wr.alloc (.cells #[.int .i64 (n:Nat)] 3)=wa at hpn hpb⊢
       have LX9:=hide (LX8.out.trans (hpb.mono LX8.out.size))
       clear LX8
       have LW1:=hide (LW0.out.trans (hpb.mono LW0.out.size))
       clear LW0
       have Zh:=hide (Me.out.below hpb Me.out.lt)
       have jm:=hide (jl.out.below hpb jl.out.lt)
       have Zi:=hide (Uf.out.low hpb)
       have eT:=hide (Om.out.trans (hpb.mono Om.out.size))
       clear Me jl Uf Om hpb
       refine(DOM.out n hn25 fn HFN.out T HTT.out _ _ _ eT.out hpn ⟨_,rfl,Zi.out⟩).mono ?_
       clear hpn kc
       rintro e wb20 ⟨v20,rfl,⟨x20,rfl,hg20⟩,hb20⟩
       have eU:=hide (LX9.out.trans (hb20.mono LX9.out.size))
       clear LX9
       have LW2:=hide (LW1.out.trans (hb20.mono LW1.out.size))
       clear LW1
       have Ug:=hide (Zh.out.below hb20 Zh.out.lt)
       have eX:=hide (jm.out.below hb20 jm.out.lt)
       have fO:=hide (Zi.out.low hb20)
       have eY:=hide (eT.out.trans (hb20.mono eT.out.size))
       clear Zh jm Zi eT hb20
       obtain⟨A20,c20,rfl⟩:=Ac hg20
       have mg:=hide hg20
       clear hg20
       go_upto_region 19 with (first | (refine BQ rfl rfl ?_;intro gt wagt csgt eZ hzgt Qv hlgt) | (refine AV eZ hzgt rfl _ _ rfl rfl rfl rfl ?_;intro Ie mh Qw hqgt))
       have LX_gt:w6.heap.size<=gt:=by have:=eU.out.size;omega
       have LW_gt:wr.heap.size<=gt:=by have:=LW2.out.size;omega
       have Zj:gs≠gt:=by have:=Ug.out.lt;omega
       have Zk:gu≠gt:=by have:=eX.out.lt;omega
       have le_gt:w.heap.size<=gt:=by have:=eY.out.size;omega
       have jo:=hide (eU.out.trans (Qv.mono eU.out.size))
       clear eU
       have LW3:=hide (LW2.out.trans (Qv.mono LW2.out.size))
       clear LW2
       have fQ:=hide (Ug.out.below Qv Ug.out.lt)
       have mo:=hide (eX.out.below Qv eX.out.lt)
       have fU:=hide (fO.out.low Qv)
       have mq:=hide (mg.out.low Qv)
       have jq:=hide (eY.out.trans (Qv.mono eY.out.size))
       clear Ug eX fO mg eY Qv
       have jr:=hide (jo.out.trans (Qw.toBelow jo.out.size (fun k hh=>by simp at hh;omega)))
       clear jo
       have LW4:=hide (LW3.out.trans (Qw.toBelow LW3.out.size (fun k hh=>by simp at hh;omega)))
       clear LW3
       have Zl:=hide (fQ.out.kept Qw (by simp;first | exact Zj | exact Ne.symm nA))
       have Zm:=hide (mo.out.kept Qw (by simp;first | exact Zk | exact Ne.symm nC))
       have fV:=hide (fU.out.kept eZ (by decide) Qw)
       have nD:=hide (mq.out.kept eZ (by decide) Qw)
       have jv:=hide (jq.out.trans (Qw.toBelow jq.out.size (fun k hh=>by simp at hh;omega)))
       clear fQ mo fU mq jq
       have jw:=hide mh
       clear mh Qw eZ hlgt
       clear hqgt
       go_simp
       have hq1:Box (Ie.alloc (.cells #[.int .i64 (n:Nat)] 3)) Ie.heap.size 3 #[.int .i64 (n:Nat)] :=Box.new Ie 3 #[.int .i64 (n:Nat)]
       have hq2:Box ((Ie.alloc (.cells #[.int .i64 (n:Nat)] 3)).alloc (.cells #[.int .i64 0,.int .i32 0,.int .u8 0,.int .u8 0,.int .u8 0,.slice none 0 0,.string ⟨#[]⟩] 34)) (Ie.heap.size+1) 34 #[.int .i64 0,.int .i32 0,.int .u8 0,.int .u8 0,.int .u8 0,.slice none 0 0,.string ⟨#[]⟩] :=by
        have h:=Box.new (Ie.alloc (.cells #[.int .i64 (n:Nat)] 3)) 34 #[.int .i64 0,.int .i32 0,.int .u8 0,.int .u8 0,.int .u8 0,.slice none 0 0,.string ⟨#[]⟩]
        rw [show(Ie.alloc (.cells #[.int .i64 (n:Nat)] 3)).heap.size=Ie.heap.size+1 by simp] at h
        exact h
       have hqb:Below Ie.heap.size Ie ((Ie.alloc (.cells #[.int .i64 (n:Nat)] 3)).alloc (.cells #[.int .i64 0,.int .i32 0,.int .u8 0,.int .u8 0,.int .u8 0,.slice none 0 0,.string ⟨#[]⟩] 34)):=((Below.refl Ie.heap.size Ie).alloc (Nat.le_refl _) (.cells #[.int .i64 (n:Nat)] 3)).alloc (by simp) _
       have hq1:=hq1.alloc (.cells #[.int .i64 0,.int .i32 0,.int .u8 0,.int .u8 0,.int .u8 0,.slice none 0 0,.string ⟨#[]⟩] 34)
       go_upto_region 20 with (refine En (ds:= #[.int .i64 4,.int .i32 0,.int .u8 63,.int .u8 36,.int .u8 112,.slice (some ⟨Ie.heap.size,0,none⟩) 1 1,.string ⟨#[]⟩]) hq2 rfl rfl _ _ _ rfl rfl rfl (by kernel_rfl) (by simp [Value.oneCell']) ?_;intro w20 jy hk20 hs20)
       have hkk:Below Ie.heap.size Ie w20:=hqb.trans (hk20.toBelow hqb.size (fun k hh=>by simp at hh;omega))
       have hq1:=hq1.kept hk20 (by simp)
       obtain⟨gp,hgp⟩: ∃g,Ie.heap.size=g:=⟨_,rfl⟩
       obtain⟨gz,hgz⟩: ∃g,gp+1=g:=⟨_,rfl⟩
       rw [hgp] at hq1
       rw [hgp,hgz] at jy
       simp only [hgp,hgz]
       have Oo:=hide hq1
       have kC:=hide jy
       clear jy hk20 hs20 hq1 hq2 hqb hgp hgz
       have kD:=hide (jr.out.trans (hkk.mono jr.out.size))
       clear jr
       have LW5:=hide (LW4.out.trans (hkk.mono LW4.out.size))
       clear LW4
       have Zn:=hide (Zl.out.below hkk Zl.out.lt)
       have Zo:=hide (Zm.out.below hkk Zm.out.lt)
       have XC:=hide (jw.out.below hkk jw.out.lt)
       have fZ:=hide (fV.out.low hkk)
       have Zp:=hide (nD.out.low hkk)
       have Td:=hide (jv.out.trans (hkk.mono jv.out.size))
       clear Zl Zm jw fV nD jv hkk
       obtain⟨mm,hmm⟩: ∃m,(27::91::63::(PA.Cj n++59::cx:: [36,121])).length=m:=⟨_,rfl⟩
       have TQ:=TOM.out n HNM.out hn25 T HTT.out cx HCX.out mm hmm
       have NQ:=NUM.out n (by omega)
       have zn:(PA.Cj n).length<=21:=Dz 20 _
       have ln:=Da (PA.Cj n)
       generalize PA.Cj n=DN at TQ NQ zn ln hmm
       have SQa:=hide (Da (27::91::63::DN))
       have SQb:=hide (Da (27::91::63::(DN++ [59])))
       have SQc:=hide (Da (27::91::63::(DN++ [59,cx])))
       have SQd:=hide (Da [cx])
       have TQ:=hide TQ
       have NQ:=hide NQ
       have ZN:=hide zn
       have LN:=hide ln
       clear hmm zn ln
       go_simp
       go_cut [100] from 81 to 100 (fun u wx=>u=.bool false/\Below w20.heap.size w20 wx)
       case first=>
        refine Dl (n:=130) [] (fun _=> #[]) [(0,0,0,0,0),(0,0,0,0,0),(1,0,0,0,0),(0,0,0,0,0),(0,0,0,0,0),(0,0,0,0,0),(0,0,0,0,0),(0,0,0,0,0),(0,0,0,0,0),(0,0,0,0,0),(0,0,0,0,0),(0,0,0,0,0),(0,0,0,0,0),(0,0,0,0,0),(0,0,0,0,0),(1,0,0,0,0),(0,0,0,0,0),(0,0,0,0,0),(0,0,0,0,0),(0,0,0,0,0)] (fun j=> [(.agg (scA (.slice A20 (T.g.rows*T.g.AB) c20) T)),(.agg #[.int .i64 4,.int .i32 0,.int .u8 63,.int .u8 36,.int .u8 112,.slice (some ⟨gp,0,none⟩) 1 1,.string {data:= #[]}]),undef,(.string (strOfNums (27::91::63::(DN++ [59,cx,36,121])))),(.int .i64 (n:Nat)),(.string (strOfNums DN)),(.string (strOfNums (27::91::63::DN))),(.string (strOfNums (27::91::63::(DN++ [59])))),(.string (strOfNums [cx])),(.string (strOfNums (27::91::63::(DN++ [59,cx])))),(.string (strOfNums (27::91::63::(DN++ [59,cx,36,121])))),(.bool false),(.bool false),(.agg (scA (.slice A20 (T.g.rows*T.g.AB) c20) T)),(.agg #[.int .i64 4,.int .i32 0,.int .u8 63,.int .u8 36,.int .u8 112,.slice (some ⟨gp,0,none⟩) 1 1,.string {data:= #[]}]),undef,(.agg (scA (.slice A20 (T.g.rows*T.g.AB) c20) T)),(.bool true),(.bool false),(.bool false)].getD j undef) [none,none,some (ByR (27::91::63::(DN++ [59,cx,36,121])) mm),none,none,none,none,none,none,none,none,none,none,none,none,some (EH T)] (fun _=>0) (by kernel_rfl) (by kernel_rfl) (by kernel_rfl) rfl (by kernel_rfl) (Cy rfl) (fun i j h=>by revert h;exact Cy (p:=fun _=>_) rfl i) (Ag.none_ (Ag.none_ (Ag.some_ (ByR.stays) (Ag.none_ (Ag.none_ (Ag.none_ (Ag.none_ (Ag.none_ (Ag.none_ (Ag.none_ (Ag.none_ (Ag.none_ (Ag.none_ (Ag.none_ (Ag.none_ (Ag.some_ (EH.stays (by kernel_rfl)) (Ag.nil _))))))))))))))))) (fun hGS=>Tj ⟨?_,?_,?_,?_,?_,?_,?_,?_,?_,?_,?_,?_,?_,?_,?_,?_,?_,?_,?_,?_⟩) ?_
        ·intro L a w' hL hsame hsz hJ AJ hcl
         have hb:=hJ.kept.toBelow (Nat.le_refl _) (by simp)
         have e0:a.eval (.tmp 20)=(.pointer (some ⟨gt,0,none⟩)):=AZ hsame (by kernel_rfl)
         have hx:=hJ.Ah ((show Box _ gt 43 (scA (.slice A20 (T.g.rows*T.g.AB) c20) T) from XC.out)) (by simp)
         exact Step.val _ rfl rfl (AU rfl) (.agg (scA (.slice A20 (T.g.rows*T.g.AB) c20) T)) w' (fun ρ hρ=>BG hx rfl ρ _ rfl ((hρ _).symm.trans e0)) (hJ.val hGS hcl hL rfl (Below.refl _ _) _ rfl)
        ·intro L a w' hL hsame hsz hJ AJ hcl
         have hb:=hJ.kept.toBelow (Nat.le_refl _) (by simp)
         have e0:a.eval (.tmp 21)=(.pointer (some ⟨gz,0,none⟩)):=AZ hsame (by kernel_rfl)
         have hx:=hJ.Ah ((show Box _ gz 34 #[.int .i64 4,.int .i32 0,.int .u8 63,.int .u8 36,.int .u8 112,.slice (some ⟨gp,0,none⟩) 1 1,.string {data:= #[]}] from kC.out)) (by simp)
         have q0:w'.cell? ⟨gz,0,none⟩=some (.int .i64 4):=hx.cell 0
         have q1:w'.cell? ⟨gz,1,none⟩=some (.int .i32 0):=hx.cell 1
         have q2:w'.cell? ⟨gz,2,none⟩=some (.int .u8 63):=hx.cell 2
         have q3:w'.cell? ⟨gz,3,none⟩=some (.int .u8 36):=hx.cell 3
         have q4:w'.cell? ⟨gz,4,none⟩=some (.int .u8 112):=hx.cell 4
         have q5:w'.cell? ⟨gz,5,none⟩=some (.slice (some ⟨gp,0,none⟩) 1 1):=hx.cell 5
         have q6:w'.cell? ⟨gz,6,none⟩=some (.string {data:= #[]}):=hx.cell 6
         refine Step.val _ rfl rfl (AU rfl) (.agg #[.int .i64 4,.int .i32 0,.int .u8 63,.int .u8 36,.int .u8 112,.slice (some ⟨gp,0,none⟩) 1 1,.string {data:= #[]}]) w' (fun ρ hρ=>?_) (hJ.val hGS hcl hL rfl (Below.refl _ _) _ rfl)
         clear hx
         rw [hρ] at e0
         clear hJ hsame AJ hcl hρ hsz hb
         go_simp
        ·intro L a w' hL hsame hsz hJ AJ hcl
         have hb:=hJ.kept.toBelow (Nat.le_refl _) (by simp)
         have e0:a.eval (.tmp 81)=(.agg (scA (.slice A20 (T.g.rows*T.g.AB) c20) T)):=AQ (j:=0) (by kernel_rfl) (hJ.valOf (by decide) (AY AJ 0 (by kernel_rfl)) rfl rfl)
         have e1:a.eval (.tmp 82)=(.agg #[.int .i64 4,.int .i32 0,.int .u8 63,.int .u8 36,.int .u8 112,.slice (some ⟨gp,0,none⟩) 1 1,.string {data:= #[]}]):=AQ (j:=1) (by kernel_rfl) (hJ.valOf (by decide) (AY AJ 1 (by kernel_rfl)) rfl rfl)
         refine Step.call _ rfl rfl (AU rfl) 31 #[.agg (scA (.slice A20 (T.g.rows*T.g.AB) c20) T),.agg #[.int .i64 4,.int .i32 0,.int .u8 63,.int .u8 36,.int .u8 112,.slice (some ⟨gp,0,none⟩) 1 1,.string {data:= #[]}]] (fun ρ hρ=>?_) ?_
         ·skip
          rw [hρ] at e0 e1
          have ef:ρ (.func 31)=.func (.func 31) #[] #[] :=(hρ _).symm
          clear hJ hsame AJ hcl hρ hsz hb
          go_simp
         ·refine(TQ.out w' _ _ _ _ (Td.out.trans (hb.mono Td.out.size)) (Seen.DI (Oo.out.below hb Oo.out.lt) rfl rfl (Oo.out.below hb Oo.out.lt).lt) (Zp.out.low hb)).mono ?_
          rintro e w2 ⟨A,c,rfl,hc,hs,bb⟩
          exact⟨_,rfl,hJ.pred hGS hcl hL rfl bb _ ⟨A,c,rfl,hs⟩⟩
        ·intro L a w' hL hsame hsz hJ AJ hcl
         have hb:=hJ.kept.toBelow (Nat.le_refl _) (by simp)
         obtain⟨A2',c2',hv2,hs2⟩:=(show(ByR (27::91::63::(DN++ [59,cx,36,121])) mm) (valOf _ 2 a) w' from hJ.Bc (by decide) (AY AJ 2 (by kernel_rfl)) rfl)
         have e0:a.eval (.tmp 83)=.slice A2' mm c2':=AQ (j:=2) (by kernel_rfl) hv2
         refine Step.val _ rfl rfl (AU rfl) (.string (strOfNums (27::91::63::(DN++ [59,cx,36,121])))) w' (fun ρ hρ=>?_) (hJ.val hGS hcl hL rfl (Below.refl _ _) _ rfl)
         rw [hρ] at e0
         clear hJ hsame AJ hcl hρ hsz hb
         have cv:=Ed (c:=c2') hs2
         go_simp
        ·intro L a w' hL hsame hsz hJ AJ hcl
         have hb:=hJ.kept.toBelow (Nat.le_refl _) (by simp)
         have e0:a.eval (.tmp 17)=(.int .i64 (n:Nat)):=AZ hsame (by kernel_rfl)
         refine Step.val _ rfl rfl (AU rfl) (.int .i64 (n:Nat)) w' (fun ρ hρ=>?_) (hJ.val hGS hcl hL rfl (Below.refl _ _) _ rfl)
         rw [hρ] at e0
         clear hJ hsame AJ hcl hρ hsz hb
         go_simp
        ·intro L a w' hL hsame hsz hJ AJ hcl
         have hb:=hJ.kept.toBelow (Nat.le_refl _) (by simp)
         have e0:a.eval (.tmp 85)=(.int .i64 (n:Nat)):=AQ (j:=4) (by kernel_rfl) (hJ.valOf (by decide) (AY AJ 4 (by kernel_rfl)) rfl rfl)
         refine Step.call _ rfl rfl (AU rfl) 34 #[.int .i64 (n:Nat)] (fun ρ hρ=>?_) ?_
         ·skip
          rw [hρ] at e0
          have ef:ρ (.func 34)=.func (.func 34) #[] #[] :=(hρ _).symm
          clear hJ hsame AJ hcl hρ hsz hb
          go_simp
         ·refine(NQ.out w').mono ?_
          rintro e w2 ⟨rfl,bb⟩
          exact⟨_,rfl,hJ.val hGS hcl hL rfl bb _ rfl⟩
        ·intro L a w' hL hsame hsz hJ AJ hcl
         have hb:=hJ.kept.toBelow (Nat.le_refl _) (by simp)
         have e1:a.eval (.tmp 86)=(.string (strOfNums DN)):=AQ (j:=5) (by kernel_rfl) (hJ.valOf (by decide) (AY AJ 5 (by kernel_rfl)) rfl rfl)
         refine Step.val _ rfl rfl (AU rfl) (.string (strOfNums (27::91::63::DN))) w' (fun ρ hρ=>?_) (hJ.val hGS hcl hL rfl (Below.refl _ _) _ rfl)
         rw [hρ] at e1
         have ec0:ρ (.const (.string {data:= #[27,91,63]}))=(.string {data:= #[27,91,63]}):=(hρ _).symm
         clear hJ hsame AJ hcl hρ hsz hb
         have z1:=LN.out
         go_simp
         rw [if_neg (by
          have z1:=LN.out
          have z3:=ZN.out
          omega)]
         refine congrArg (fun z=>Result.ok (Next.value (Value.string z)) w') ?_
         exact(D6 ([27,91,63]) (DN)).trans (congrArg strOfNums (by simp))
        ·intro L a w' hL hsame hsz hJ AJ hcl
         have hb:=hJ.kept.toBelow (Nat.le_refl _) (by simp)
         have e0:a.eval (.tmp 87)=(.string (strOfNums (27::91::63::DN))):=AQ (j:=6) (by kernel_rfl) (hJ.valOf (by decide) (AY AJ 6 (by kernel_rfl)) rfl rfl)
         refine Step.val _ rfl rfl (AU rfl) (.string (strOfNums (27::91::63::(DN++ [59])))) w' (fun ρ hρ=>?_) (hJ.val hGS hcl hL rfl (Below.refl _ _) _ rfl)
         rw [hρ] at e0
         have ec0:ρ (.const (.string {data:= #[59]}))=(.string {data:= #[59]}):=(hρ _).symm
         clear hJ hsame AJ hcl hρ hsz hb
         go_simp
         rw [if_neg (by
          have z1:=LN.out
          have z3:=ZN.out
          have ySQa:=SQa.out
          simp only [List.length_cons] at ySQa
          omega)]
         refine congrArg (fun z=>Result.ok (Next.value (Value.string z)) w') ?_
         exact(D6 (27::91::63::DN) ([59])).trans (congrArg strOfNums (by simp))
        ·intro L a w' hL hsame hsz hJ AJ hcl
         have hb:=hJ.kept.toBelow (Nat.le_refl _) (by simp)
         have e0:a.eval (.tmp 19)=(.string (strOfNums [cx])):=AZ hsame (by kernel_rfl)
         refine Step.val _ rfl rfl (AU rfl) (.string (strOfNums [cx])) w' (fun ρ hρ=>?_) (hJ.val hGS hcl hL rfl (Below.refl _ _) _ rfl)
         rw [hρ] at e0
         clear hJ hsame AJ hcl hρ hsz hb
         go_simp
        ·intro L a w' hL hsame hsz hJ AJ hcl
         have hb:=hJ.kept.toBelow (Nat.le_refl _) (by simp)
         have e0:a.eval (.tmp 88)=(.string (strOfNums (27::91::63::(DN++ [59])))):=AQ (j:=7) (by kernel_rfl) (hJ.valOf (by decide) (AY AJ 7 (by kernel_rfl)) rfl rfl)
         have e1:a.eval (.tmp 89)=(.string (strOfNums [cx])):=AQ (j:=8) (by kernel_rfl) (hJ.valOf (by decide) (AY AJ 8 (by kernel_rfl)) rfl rfl)
         refine Step.val _ rfl rfl (AU rfl) (.string (strOfNums (27::91::63::(DN++ [59,cx])))) w' (fun ρ hρ=>?_) (hJ.val hGS hcl hL rfl (Below.refl _ _) _ rfl)
         rw [hρ] at e0 e1
         clear hJ hsame AJ hcl hρ hsz hb
         go_simp
         rw [if_neg (by
          have z1:=LN.out
          have z3:=ZN.out
          have ySQb:=SQb.out
          simp only [List.length_append,List.length_cons,List.length_nil] at ySQb
          have ySQd:=SQd.out
          simp only [List.length_cons,List.length_nil] at ySQd
          omega)]
         refine congrArg (fun z=>Result.ok (Next.value (Value.string z)) w') ?_
         exact(D6 (27::91::63::(DN++ [59])) ([cx])).trans (congrArg strOfNums (by simp))
        ·intro L a w' hL hsame hsz hJ AJ hcl
         have hb:=hJ.kept.toBelow (Nat.le_refl _) (by simp)
         have e0:a.eval (.tmp 90)=(.string (strOfNums (27::91::63::(DN++ [59,cx])))):=AQ (j:=9) (by kernel_rfl) (hJ.valOf (by decide) (AY AJ 9 (by kernel_rfl)) rfl rfl)
         refine Step.val _ rfl rfl (AU rfl) (.string (strOfNums (27::91::63::(DN++ [59,cx,36,121])))) w' (fun ρ hρ=>?_) (hJ.val hGS hcl hL rfl (Below.refl _ _) _ rfl)
         rw [hρ] at e0
         have ec0:ρ (.const (.string {data:= #[36,121]}))=(.string {data:= #[36,121]}):=(hρ _).symm
         clear hJ hsame AJ hcl hρ hsz hb
         go_simp
         rw [if_neg (by
          have z1:=LN.out
          have z3:=ZN.out
          have ySQc:=SQc.out
          simp only [List.length_append,List.length_cons,List.length_nil] at ySQc
          omega)]
         refine congrArg (fun z=>Result.ok (Next.value (Value.string z)) w') ?_
         exact(D6 (27::91::63::(DN++ [59,cx])) ([36,121])).trans (congrArg strOfNums (by simp))
        ·intro L a w' hL hsame hsz hJ AJ hcl
         have hb:=hJ.kept.toBelow (Nat.le_refl _) (by simp)
         have e0:a.eval (.tmp 84)=(.string (strOfNums (27::91::63::(DN++ [59,cx,36,121])))):=AQ (j:=3) (by kernel_rfl) (hJ.valOf (by decide) (AY AJ 3 (by kernel_rfl)) rfl rfl)
         have e1:a.eval (.tmp 91)=(.string (strOfNums (27::91::63::(DN++ [59,cx,36,121])))):=AQ (j:=10) (by kernel_rfl) (hJ.valOf (by decide) (AY AJ 10 (by kernel_rfl)) rfl rfl)
         refine Step.val _ rfl rfl (AU rfl) (.bool false) w' (fun ρ hρ=>?_) (hJ.val hGS hcl hL rfl (Below.refl _ _) _ rfl)
         rw [hρ] at e0 e1
         clear hJ hsame AJ hcl hρ hsz hb
         go_simp
        ·intro L a w' hL hsame hsz hJ AJ hcl
         have hb:=hJ.kept.toBelow (Nat.le_refl _) (by simp)
         have e0:a.eval (.tmp 92)=(.bool false):=AQ (j:=11) (by kernel_rfl) (hJ.valOf (by decide) (AY AJ 11 (by kernel_rfl)) rfl rfl)
         refine Step.val _ rfl rfl (AU rfl) (.bool false) w' (fun ρ hρ=>?_) (hJ.val hGS hcl hL rfl (Below.refl _ _) _ rfl)
         rw [hρ] at e0
         clear hJ hsame AJ hcl hρ hsz hb
         go_simp
        ·intro L a w' hL hsame hsz hJ AJ hcl
         have gd:valOf _ 12 a=.bool false:=hJ.valOf (by decide) (AY AJ 12 (by kernel_rfl)) rfl rfl
         have hb:=hJ.kept.toBelow (Nat.le_refl _) (by simp)
         have e0:a.eval (.tmp 20)=(.pointer (some ⟨gt,0,none⟩)):=AZ hsame (by kernel_rfl)
         have hx:=hJ.Ah ((show Box _ gt 43 (scA (.slice A20 (T.g.rows*T.g.AB) c20) T) from XC.out)) (by simp)
         exact Step.val _ rfl rfl (Ao (g:=12) (b:=false) rfl gd) (.agg (scA (.slice A20 (T.g.rows*T.g.AB) c20) T)) w' (fun ρ hρ=>BG hx rfl ρ _ rfl ((hρ _).symm.trans e0)) (hJ.val hGS hcl hL rfl (Below.refl _ _) _ rfl)
        ·intro L a w' hL hsame hsz hJ AJ hcl
         have gd:valOf _ 12 a=.bool false:=hJ.valOf (by decide) (AY AJ 12 (by kernel_rfl)) rfl rfl
         have hb:=hJ.kept.toBelow (Nat.le_refl _) (by simp)
         have e0:a.eval (.tmp 21)=(.pointer (some ⟨gz,0,none⟩)):=AZ hsame (by kernel_rfl)
         have hx:=hJ.Ah ((show Box _ gz 34 #[.int .i64 4,.int .i32 0,.int .u8 63,.int .u8 36,.int .u8 112,.slice (some ⟨gp,0,none⟩) 1 1,.string {data:= #[]}] from kC.out)) (by simp)
         have q0:w'.cell? ⟨gz,0,none⟩=some (.int .i64 4):=hx.cell 0
         have q1:w'.cell? ⟨gz,1,none⟩=some (.int .i32 0):=hx.cell 1
         have q2:w'.cell? ⟨gz,2,none⟩=some (.int .u8 63):=hx.cell 2
         have q3:w'.cell? ⟨gz,3,none⟩=some (.int .u8 36):=hx.cell 3
         have q4:w'.cell? ⟨gz,4,none⟩=some (.int .u8 112):=hx.cell 4
         have q5:w'.cell? ⟨gz,5,none⟩=some (.slice (some ⟨gp,0,none⟩) 1 1):=hx.cell 5
         have q6:w'.cell? ⟨gz,6,none⟩=some (.string {data:= #[]}):=hx.cell 6
         refine Step.val _ rfl rfl (Ao (g:=12) (b:=false) rfl gd) (.agg #[.int .i64 4,.int .i32 0,.int .u8 63,.int .u8 36,.int .u8 112,.slice (some ⟨gp,0,none⟩) 1 1,.string {data:= #[]}]) w' (fun ρ hρ=>?_) (hJ.val hGS hcl hL rfl (Below.refl _ _) _ rfl)
         clear hx
         rw [hρ] at e0
         clear hJ hsame AJ hcl hρ hsz hb gd
         go_simp
        ·intro L a w' hL hsame hsz hJ AJ hcl
         have gd:valOf _ 12 a=.bool false:=hJ.valOf (by decide) (AY AJ 12 (by kernel_rfl)) rfl rfl
         have hb:=hJ.kept.toBelow (Nat.le_refl _) (by simp)
         have e0:a.eval (.tmp 94)=(.agg (scA (.slice A20 (T.g.rows*T.g.AB) c20) T)):=AQ (j:=13) (by kernel_rfl) (hJ.valOf (by decide) (AY AJ 13 (by kernel_rfl)) rfl rfl)
         have e1:a.eval (.tmp 95)=(.agg #[.int .i64 4,.int .i32 0,.int .u8 63,.int .u8 36,.int .u8 112,.slice (some ⟨gp,0,none⟩) 1 1,.string {data:= #[]}]):=AQ (j:=14) (by kernel_rfl) (hJ.valOf (by decide) (AY AJ 14 (by kernel_rfl)) rfl rfl)
         refine Step.call _ rfl rfl (Ao (g:=12) (b:=false) rfl gd) 15 #[.agg (scA (.slice A20 (T.g.rows*T.g.AB) c20) T),.agg #[.int .i64 4,.int .i32 0,.int .u8 63,.int .u8 36,.int .u8 112,.slice (some ⟨gp,0,none⟩) 1 1,.string {data:= #[]}]] (fun ρ hρ=>?_) ?_
         ·skip
          rw [hρ] at e0 e1
          have ef:ρ (.func 15)=.func (.func 15) #[] #[] :=(hρ _).symm
          clear hJ hsame AJ hcl hρ hsz hb gd
          go_simp
         ·refine(DOT.out n hn25 T HTT.out w' _ _ _ (Td.out.trans (hb.mono Td.out.size)) (Nat.le_refl _) (Seen.DI (Oo.out.below hb Oo.out.lt) rfl rfl (Oo.out.below hb Oo.out.lt).lt) ⟨_,rfl,(Zp.out.low hb)⟩).mono ?_
          rintro e w2 ⟨v,rfl,hi,bb⟩
          exact⟨_,rfl,hJ.pred hGS hcl hL rfl bb _ (FC hi)⟩
        ·intro L a w' hL hsame hsz hJ AJ hcl
         have gd:valOf _ 12 a=.bool false:=hJ.valOf (by decide) (AY AJ 12 (by kernel_rfl)) rfl rfl
         have hb:=hJ.kept.toBelow (Nat.le_refl _) (by simp)
         have e0:a.eval (.tmp 20)=(.pointer (some ⟨gt,0,none⟩)):=AZ hsame (by kernel_rfl)
         have hx:=hJ.Ah ((show Box _ gt 43 (scA (.slice A20 (T.g.rows*T.g.AB) c20) T) from XC.out)) (by simp)
         exact Step.val _ rfl rfl (Ao (g:=12) (b:=false) rfl gd) (.agg (scA (.slice A20 (T.g.rows*T.g.AB) c20) T)) w' (fun ρ hρ=>BG hx rfl ρ _ rfl ((hρ _).symm.trans e0)) (hJ.val hGS hcl hL rfl (Below.refl _ _) _ rfl)
        ·intro L a w' hL hsame hsz hJ AJ hcl
         have gd:valOf _ 12 a=.bool false:=hJ.valOf (by decide) (AY AJ 12 (by kernel_rfl)) rfl rfl
         have hb:=hJ.kept.toBelow (Nat.le_refl _) (by simp)
         obtain⟨Y4,Y5,hv15,hi15⟩:=(show(EH T) (valOf _ 15 a) w' from hJ.Bc (by decide) (AY AJ 15 (by kernel_rfl)) rfl)
         have e0:a.eval (.tmp 96)=.agg (scA (.slice Y4 (T.g.rows*T.g.AB) Y5) T):=AQ (j:=15) (by kernel_rfl) hv15
         have e1:a.eval (.tmp 97)=(.agg (scA (.slice A20 (T.g.rows*T.g.AB) c20) T)):=AQ (j:=16) (by kernel_rfl) (hJ.valOf (by decide) (AY AJ 16 (by kernel_rfl)) rfl rfl)
         refine Step.call _ rfl rfl (Ao (g:=12) (b:=false) rfl gd) 16 #[.agg (scA (.slice Y4 (T.g.rows*T.g.AB) Y5) T),.agg (scA (.slice A20 (T.g.rows*T.g.AB) c20) T)] (fun ρ hρ=>?_) ?_
         ·skip
          rw [hρ] at e0 e1
          have ef:ρ (.func 16)=.func (.func 16) #[] #[] :=(hρ _).symm
          clear hJ hsame AJ hcl hρ hsz hb gd
          go_simp
         ·refine(HST.out n T HTT.out w' _ _ _ _ hi15 (Zp.out.low hb)).mono ?_
          rintro e w2 ⟨rfl,bb⟩
          exact⟨_,rfl,hJ.val hGS hcl hL rfl bb _ rfl⟩
        ·intro L a w' hL hsame hsz hJ AJ hcl
         have gd:valOf _ 12 a=.bool false:=hJ.valOf (by decide) (AY AJ 12 (by kernel_rfl)) rfl rfl
         have hb:=hJ.kept.toBelow (Nat.le_refl _) (by simp)
         have e0:a.eval (.tmp 98)=(.bool true):=AQ (j:=17) (by kernel_rfl) (hJ.valOf (by decide) (AY AJ 17 (by kernel_rfl)) rfl rfl)
         refine Step.val _ rfl rfl (Ao (g:=12) (b:=false) rfl gd) (.bool false) w' (fun ρ hρ=>?_) (hJ.val hGS hcl hL rfl (Below.refl _ _) _ rfl)
         rw [hρ] at e0
         clear hJ hsame AJ hcl hρ hsz hb gd
         go_simp
        ·intro L a w' hL hsame hsz hJ AJ hcl
         have hb:=hJ.kept.toBelow (Nat.le_refl _) (by simp)
         have e0:a.eval (.tmp 93)=(.bool false):=AQ (j:=12) (by kernel_rfl) (hJ.valOf (by decide) (AY AJ 12 (by kernel_rfl)) rfl rfl)
         have e2:a.eval (.tmp 99)=(.bool false):=AQ (j:=18) (by kernel_rfl) (hJ.valOf (by decide) (AY AJ 18 (by kernel_rfl)) rfl rfl)
         refine Step.val _ rfl rfl (AU rfl) (.bool false) w' (fun ρ hρ=>?_) (hJ.val hGS hcl hL rfl (Below.refl _ _) _ rfl)
         rw [hρ] at e0 e2
         have ec0:ρ (.const (.bool true))=(.bool true):=(hρ _).symm
         clear hJ hsame AJ hcl hρ hsz hb
         go_simp
        ·intro u w' hF
         change Exit.then _ _ Exit.normal (Act.put (Act.put (Act.put (Act.put (Act.put (Act.put (Act.put (Act.put (Act.put (Act.put (Act.put (Act.put (Act.put (Act.put (Act.put (Act.put (Act.put (Act.put (Act.put (Act.put (Aq _ u 0 _) (some 81) (u 0)) (some 82) (u 1)) (some 83) (u 2)) (some 84) (u 3)) (some 85) (u 4)) (some 86) (u 5)) (some 87) (u 6)) (some 88) (u 7)) (some 89) (u 8)) (some 90) (u 9)) (some 91) (u 10)) (some 92) (u 11)) (some 93) (u 12)) (some 94) (u 13)) (some 95) (u 14)) (some 96) (u 15)) (some 97) (u 16)) (some 98) (u 17)) (some 99) (u 18)) (some 100) (u 19)) _
         simp only [Aq]
         obtain f19:u 19=.bool false:=hF.Nu (j:=19) (by decide) rfl rfl
         have hk:=hF.kept.toBelow (Nat.le_refl _) (by simp)
         clear hF
         generalize u 0=y0
         generalize u 1=y1
         generalize u 2=y2
         generalize u 3=y3
         generalize u 4=y4
         generalize u 5=y5
         generalize u 6=y6
         generalize u 7=y7
         generalize u 8=y8
         generalize u 9=y9
         generalize u 10=y10
         generalize u 11=y11
         generalize u 12=y12
         generalize u 13=y13
         generalize u 14=y14
         generalize u 15=y15
         generalize u 16=y16
         generalize u 17=y17
         generalize u 18=y18
         generalize u 19=y19 at f19⊢
         subst f19
         go_simp
         go_step
         go_meet
         exact⟨rfl,hk⟩
       case rest=>
        obtain⟨rfl,hcb⟩:=hcut
        rename World=>w21
        clear kC Oo
        have LX14:=hide (kD.out.trans (hcb.mono kD.out.size))
        clear kD
        have LW6:=hide (LW5.out.trans (hcb.mono LW5.out.size))
        clear LW5
        have HSs19:=hide (Zn.out.below hcb Zn.out.lt)
        have HSo12:=hide (Zo.out.below hcb Zo.out.lt)
        have HSt3:=hide (XC.out.below hcb XC.out.lt)
        have HGs21:=hide (fZ.out.low hcb)
        have HGt5:=hide (Zp.out.low hcb)
        have LO22:=hide (Td.out.trans (hcb.mono Td.out.size))
        clear Zn Zo XC fZ Zp Td hcb
        go_wp2_with fail
        go_roundw
        ·exact⟨i+1,by omega,by simp,HL0.out.trans (LW6.out.mono HL0.out.size)⟩
        ·simp [intOf] <;>omega
     ·skip
      have hi4':i=4:=by omega
      have hiI: ¬(i:Int)<4:=by omega
      clear hi4'
      go_upto_region 23 with fail
      have HABn:=hide (HAB.out.below LX8.out HAB.out.lt)
      have HASn:=hide ((HAS.out.below LX8.out).more LX8.out.size)
      have STA:=hide (Da (27::91::DY))
      have STB:=hide (Da (27::91::DM))
      have STC:=hide (Da (59::(DX++ [82])))
      have NYF:=hide (fun (w':World)=>(show Calls Tryz.prog 34 #[.int .i64 ((F.row:Int)+1)] w' fun (e:Ending) w''=>e=Ending.returned (Value.string (strOfNums DY))/\Below w'.heap.size w' w'' by rw [HFR.out];exact NY.out w'))
      have hFrb:F.row<=5:=by rw [HFR.out];omega
      clear mZ HL0
      refine Dl (n:=130) [] (fun _=> #[]) [(0,0,0,0,0),(0,0,0,0,0),(0,0,0,0,0),(0,0,0,0,0),(0,0,0,0,0),(0,0,0,0,0),(0,0,0,0,0),(0,0,0,0,0),(0,0,0,0,0),(0,0,0,0,0),(0,0,0,0,0),(0,0,0,0,0),(0,0,0,0,0),(0,0,0,0,0),(0,0,0,0,0),(0,0,0,0,0),(0,0,0,0,0),(0,0,0,0,0),(0,0,0,0,0),(0,0,0,0,0),(0,0,0,0,0),(1,0,0,0,0),(0,0,0,0,0),(0,0,0,0,0),(0,0,0,0,0),(0,0,0,0,0),(0,0,0,0,0),(0,0,0,0,0),(0,0,0,0,0)] (fun j=> [(.string (strOfNums (27::91::(DY++59::(DX++ [82]))))),(.pointer (some ⟨gs,3,none⟩)),(.int .i64 (F.row:Nat)),(.int .i64 ((F.row:Int)+1)),(.string (strOfNums DY)),(.string (strOfNums (27::91::DY))),(.string (strOfNums (59::(DX++ [82])))),(.string (strOfNums (27::91::(DY++59::(DX++ [82]))))),(.bool true),(.bool true),(.string (strOfNums (27::91::(DM++59::(DX++ [82]))))),(.int .i64 ((m:Int)+1)),(.string (strOfNums DM)),(.string (strOfNums (27::91::DM))),(.string (strOfNums (59::(DX++ [82])))),(.string (strOfNums (27::91::(DM++59::(DX++ [82]))))),(.bool true),(.bool true),(.bool true),(.agg (scA (.slice A1 (F.g.rows*F.g.AB) c1) F)),(.agg #[.int .i64 4,.int .i32 0,.int .u8 0,.int .u8 0,.int .u8 110,.slice Aa 1 ca,.string {data:= #[]}]),undef,(.agg (scA (.slice A1 (F.g.rows*F.g.AB) c1) F)),(.bool true),(.bool true),(.bool true),(.bool true),(.bool true),(.bool true)].getD j undef) [none,none,none,none,none,none,none,none,none,none,none,none,none,none,none,none,none,none,none,none,none,some (EH F)] (fun _=>0) (by kernel_rfl) (by kernel_rfl) (by kernel_rfl) rfl (by kernel_rfl) (Cy rfl) (fun i j h=>by revert h;exact Cy (p:=fun _=>_) rfl i) (Ag.none_ (Ag.none_ (Ag.none_ (Ag.none_ (Ag.none_ (Ag.none_ (Ag.none_ (Ag.none_ (Ag.none_ (Ag.none_ (Ag.none_ (Ag.none_ (Ag.none_ (Ag.none_ (Ag.none_ (Ag.none_ (Ag.none_ (Ag.none_ (Ag.none_ (Ag.none_ (Ag.none_ (Ag.some_ (EH.stays (by kernel_rfl)) (Ag.nil _))))))))))))))))))))))) (fun hGS=>aA ⟨?_,?_,?_,?_,?_,?_,?_,?_,?_,?_,?_,?_,?_,?_,?_,?_,?_,?_,?_,?_,?_,?_,?_,?_,?_,?_,?_,?_,?_⟩) ?_
      ·intro L a w' hL hsame hsz hJ AJ hcl
       have hb:=hJ.kept.toBelow (Nat.le_refl _) (by simp)
       have e0:a.eval (.tmp 11)=(.string (strOfNums (27::91::(DY++59::(DX++ [82]))))):=AZ hsame (by kernel_rfl)
       refine Step.val _ rfl rfl (AU rfl) (.string (strOfNums (27::91::(DY++59::(DX++ [82]))))) w' (fun ρ hρ=>?_) (hJ.val hGS hcl hL rfl (Below.refl _ _) _ rfl)
       rw [hρ] at e0
       clear hJ hsame AJ hcl hρ hsz hb
       go_simp
      ·intro L a w' hL hsame hsz hJ AJ hcl
       have hb:=hJ.kept.toBelow (Nat.le_refl _) (by simp)
       have e0:a.eval (.tmp 9)=(.pointer (some ⟨gs,0,none⟩)):=AZ hsame (by kernel_rfl)
       refine Step.val _ rfl rfl (AU rfl) (.pointer (some ⟨gs,3,none⟩)) w' (fun ρ hρ=>?_) (hJ.val hGS hcl hL rfl (Below.refl _ _) _ rfl)
       rw [hρ] at e0
       clear hJ hsame AJ hcl hρ hsz hb
       go_simp
      ·intro L a w' hL hsame hsz hJ AJ hcl
       have hb:=hJ.kept.toBelow (Nat.le_refl _) (by simp)
       have e0:a.eval (.tmp 103)=(.pointer (some ⟨gs,3,none⟩)):=AQ (j:=1) (by kernel_rfl) (hJ.valOf (by decide) (AY AJ 1 (by kernel_rfl)) rfl rfl)
       have hx:=hJ.Ah ((show Box _ gs 43 (scA (.slice A1 (F.g.rows*F.g.AB) c1) F) from Me.out)) (by simp)
       have q0:w'.cell? ⟨gs,3,none⟩=some (.int .i64 (F.row:Nat)):=hx.cell 3
       refine Step.val _ rfl rfl (AU rfl) (.int .i64 (F.row:Nat)) w' (fun ρ hρ=>?_) (hJ.val hGS hcl hL rfl (Below.refl _ _) _ rfl)
       clear hx
       rw [hρ] at e0
       clear hJ hsame AJ hcl hρ hsz hb
       go_simp
      ·intro L a w' hL hsame hsz hJ AJ hcl
       have hb:=hJ.kept.toBelow (Nat.le_refl _) (by simp)
       have e0:a.eval (.tmp 104)=(.int .i64 (F.row:Nat)):=AQ (j:=2) (by kernel_rfl) (hJ.valOf (by decide) (AY AJ 2 (by kernel_rfl)) rfl rfl)
       refine Step.val _ rfl rfl (AU rfl) (.int .i64 ((F.row:Int)+1)) w' (fun ρ hρ=>?_) (hJ.val hGS hcl hL rfl (Below.refl _ _) _ rfl)
       rw [hρ] at e0
       have ec0:ρ (.const (.int .i64 1))=(.int .i64 1):=(hρ _).symm
       clear hJ hsame AJ hcl hρ hsz hb
       go_simp
       all_goals (exact IntWalk.i64_in _ (by omega))
      ·intro L a w' hL hsame hsz hJ AJ hcl
       have hb:=hJ.kept.toBelow (Nat.le_refl _) (by simp)
       have e0:a.eval (.tmp 105)=(.int .i64 ((F.row:Int)+1)):=AQ (j:=3) (by kernel_rfl) (hJ.valOf (by decide) (AY AJ 3 (by kernel_rfl)) rfl rfl)
       refine Step.call _ rfl rfl (AU rfl) 34 #[.int .i64 ((F.row:Int)+1)] (fun ρ hρ=>?_) ?_
       ·skip
        rw [hρ] at e0
        have ef:ρ (.func 34)=.func (.func 34) #[] #[] :=(hρ _).symm
        clear hJ hsame AJ hcl hρ hsz hb
        go_simp
       ·refine(NYF.out w').mono ?_
        rintro e w2 ⟨rfl,bb⟩
        exact⟨_,rfl,hJ.val hGS hcl hL rfl bb _ rfl⟩
      ·intro L a w' hL hsame hsz hJ AJ hcl
       have hb:=hJ.kept.toBelow (Nat.le_refl _) (by simp)
       have e1:a.eval (.tmp 106)=(.string (strOfNums DY)):=AQ (j:=4) (by kernel_rfl) (hJ.valOf (by decide) (AY AJ 4 (by kernel_rfl)) rfl rfl)
       refine Step.val _ rfl rfl (AU rfl) (.string (strOfNums (27::91::DY))) w' (fun ρ hρ=>?_) (hJ.val hGS hcl hL rfl (Below.refl _ _) _ rfl)
       rw [hρ] at e1
       have ec0:ρ (.const (.string {data:= #[27,91]}))=(.string {data:= #[27,91]}):=(hρ _).symm
       clear hJ hsame AJ hcl hρ hsz hb
       have z1:=LY.out
       have z2:=LM.out
       go_simp
       rw [if_neg (by
        have u1:=LY.out
        have u2:=LM.out
        have u3:=ZY.out
        have u4:=ZM.out
        have u5:=ZX.out
        omega)]
       refine congrArg (fun z=>Result.ok (Next.value (Value.string z)) w') ?_
       exact(D6 ([27,91]) (DY)).trans (congrArg strOfNums (by simp))
      ·intro L a w' hL hsame hsz hJ AJ hcl
       have hb:=hJ.kept.toBelow (Nat.le_refl _) (by simp)
       have e0:a.eval (.tmp 14)=(.string (strOfNums (59::(DX++ [82])))):=AZ hsame (by kernel_rfl)
       refine Step.val _ rfl rfl (AU rfl) (.string (strOfNums (59::(DX++ [82])))) w' (fun ρ hρ=>?_) (hJ.val hGS hcl hL rfl (Below.refl _ _) _ rfl)
       rw [hρ] at e0
       clear hJ hsame AJ hcl hρ hsz hb
       go_simp
      ·intro L a w' hL hsame hsz hJ AJ hcl
       have hb:=hJ.kept.toBelow (Nat.le_refl _) (by simp)
       have e0:a.eval (.tmp 107)=(.string (strOfNums (27::91::DY))):=AQ (j:=5) (by kernel_rfl) (hJ.valOf (by decide) (AY AJ 5 (by kernel_rfl)) rfl rfl)
       have e1:a.eval (.tmp 108)=(.string (strOfNums (59::(DX++ [82])))):=AQ (j:=6) (by kernel_rfl) (hJ.valOf (by decide) (AY AJ 6 (by kernel_rfl)) rfl rfl)
       refine Step.val _ rfl rfl (AU rfl) (.string (strOfNums (27::91::(DY++59::(DX++ [82]))))) w' (fun ρ hρ=>?_) (hJ.val hGS hcl hL rfl (Below.refl _ _) _ rfl)
       rw [hρ] at e0 e1
       clear hJ hsame AJ hcl hρ hsz hb
       go_simp
       rw [if_neg (by
        have u1:=LY.out
        have u2:=LM.out
        have u3:=ZY.out
        have u4:=ZM.out
        have u5:=ZX.out
        have ySTA:=STA.out
        simp only [List.length_cons] at ySTA
        have kE:=STC.out
        simp only [List.length_append,List.length_cons,List.length_nil] at kE
        omega)]
       refine congrArg (fun z=>Result.ok (Next.value (Value.string z)) w') ?_
       exact(D6 (27::91::DY) (59::(DX++ [82]))).trans (congrArg strOfNums (by simp))
      ·intro L a w' hL hsame hsz hJ AJ hcl
       have hb:=hJ.kept.toBelow (Nat.le_refl _) (by simp)
       have e0:a.eval (.tmp 102)=(.string (strOfNums (27::91::(DY++59::(DX++ [82]))))):=AQ (j:=0) (by kernel_rfl) (hJ.valOf (by decide) (AY AJ 0 (by kernel_rfl)) rfl rfl)
       have e1:a.eval (.tmp 109)=(.string (strOfNums (27::91::(DY++59::(DX++ [82]))))):=AQ (j:=7) (by kernel_rfl) (hJ.valOf (by decide) (AY AJ 7 (by kernel_rfl)) rfl rfl)
       refine Step.val _ rfl rfl (AU rfl) (.bool true) w' (fun ρ hρ=>?_) (hJ.val hGS hcl hL rfl (Below.refl _ _) _ rfl)
       rw [hρ] at e0 e1
       clear hJ hsame AJ hcl hρ hsz hb
       go_simp
      ·intro L a w' hL hsame hsz hJ AJ hcl
       have hb:=hJ.kept.toBelow (Nat.le_refl _) (by simp)
       have e0:a.eval (.tmp 110)=(.bool true):=AQ (j:=8) (by kernel_rfl) (hJ.valOf (by decide) (AY AJ 8 (by kernel_rfl)) rfl rfl)
       refine Step.val _ rfl rfl (AU rfl) (.bool true) w' (fun ρ hρ=>?_) (hJ.val hGS hcl hL rfl (Below.refl _ _) _ rfl)
       rw [hρ] at e0
       clear hJ hsame AJ hcl hρ hsz hb
       go_simp
      ·intro L a w' hL hsame hsz hJ AJ hcl
       have gd:valOf _ 9 a=.bool true:=hJ.valOf (by decide) (AY AJ 9 (by kernel_rfl)) rfl rfl
       have hb:=hJ.kept.toBelow (Nat.le_refl _) (by simp)
       have e0:a.eval (.tmp 13)=(.string (strOfNums (27::91::(DM++59::(DX++ [82]))))):=AZ hsame (by kernel_rfl)
       refine Step.val _ rfl rfl (Ao (g:=9) (b:=true) rfl gd) (.string (strOfNums (27::91::(DM++59::(DX++ [82]))))) w' (fun ρ hρ=>?_) (hJ.val hGS hcl hL rfl (Below.refl _ _) _ rfl)
       rw [hρ] at e0
       clear hJ hsame AJ hcl hρ hsz hb gd
       go_simp
      ·intro L a w' hL hsame hsz hJ AJ hcl
       have gd:valOf _ 9 a=.bool true:=hJ.valOf (by decide) (AY AJ 9 (by kernel_rfl)) rfl rfl
       have hb:=hJ.kept.toBelow (Nat.le_refl _) (by simp)
       have e0:a.eval (.tmp 15)=(.int .i64 ((m:Int)+1)):=AZ hsame (by kernel_rfl)
       refine Step.val _ rfl rfl (Ao (g:=9) (b:=true) rfl gd) (.int .i64 ((m:Int)+1)) w' (fun ρ hρ=>?_) (hJ.val hGS hcl hL rfl (Below.refl _ _) _ rfl)
       rw [hρ] at e0
       clear hJ hsame AJ hcl hρ hsz hb gd
       go_simp
      ·intro L a w' hL hsame hsz hJ AJ hcl
       have gd:valOf _ 9 a=.bool true:=hJ.valOf (by decide) (AY AJ 9 (by kernel_rfl)) rfl rfl
       have hb:=hJ.kept.toBelow (Nat.le_refl _) (by simp)
       have e0:a.eval (.tmp 113)=(.int .i64 ((m:Int)+1)):=AQ (j:=11) (by kernel_rfl) (hJ.valOf (by decide) (AY AJ 11 (by kernel_rfl)) rfl rfl)
       refine Step.call _ rfl rfl (Ao (g:=9) (b:=true) rfl gd) 34 #[.int .i64 ((m:Int)+1)] (fun ρ hρ=>?_) ?_
       ·skip
        rw [hρ] at e0
        have ef:ρ (.func 34)=.func (.func 34) #[] #[] :=(hρ _).symm
        clear hJ hsame AJ hcl hρ hsz hb gd
        go_simp
       ·refine(NM.out w').mono ?_
        rintro e w2 ⟨rfl,bb⟩
        exact⟨_,rfl,hJ.val hGS hcl hL rfl bb _ rfl⟩
      ·intro L a w' hL hsame hsz hJ AJ hcl
       have gd:valOf _ 9 a=.bool true:=hJ.valOf (by decide) (AY AJ 9 (by kernel_rfl)) rfl rfl
       have hb:=hJ.kept.toBelow (Nat.le_refl _) (by simp)
       have e1:a.eval (.tmp 114)=(.string (strOfNums DM)):=AQ (j:=12) (by kernel_rfl) (hJ.valOf (by decide) (AY AJ 12 (by kernel_rfl)) rfl rfl)
       refine Step.val _ rfl rfl (Ao (g:=9) (b:=true) rfl gd) (.string (strOfNums (27::91::DM))) w' (fun ρ hρ=>?_) (hJ.val hGS hcl hL rfl (Below.refl _ _) _ rfl)
       rw [hρ] at e1
       have ec0:ρ (.const (.string {data:= #[27,91]}))=(.string {data:= #[27,91]}):=(hρ _).symm
       clear hJ hsame AJ hcl hρ hsz hb gd
       have z1:=LY.out
       have z2:=LM.out
       go_simp
       rw [if_neg (by
        have u1:=LY.out
        have u2:=LM.out
        have u3:=ZY.out
        have u4:=ZM.out
        have u5:=ZX.out
        omega)]
       refine congrArg (fun z=>Result.ok (Next.value (Value.string z)) w') ?_
       exact(D6 ([27,91]) (DM)).trans (congrArg strOfNums (by simp))
      ·intro L a w' hL hsame hsz hJ AJ hcl
       have gd:valOf _ 9 a=.bool true:=hJ.valOf (by decide) (AY AJ 9 (by kernel_rfl)) rfl rfl
       have hb:=hJ.kept.toBelow (Nat.le_refl _) (by simp)
       have e0:a.eval (.tmp 14)=(.string (strOfNums (59::(DX++ [82])))):=AZ hsame (by kernel_rfl)
       refine Step.val _ rfl rfl (Ao (g:=9) (b:=true) rfl gd) (.string (strOfNums (59::(DX++ [82])))) w' (fun ρ hρ=>?_) (hJ.val hGS hcl hL rfl (Below.refl _ _) _ rfl)
       rw [hρ] at e0
       clear hJ hsame AJ hcl hρ hsz hb gd
       go_simp
      ·intro L a w' hL hsame hsz hJ AJ hcl
       have gd:valOf _ 9 a=.bool true:=hJ.valOf (by decide) (AY AJ 9 (by kernel_rfl)) rfl rfl
       have hb:=hJ.kept.toBelow (Nat.le_refl _) (by simp)
       have e0:a.eval (.tmp 115)=(.string (strOfNums (27::91::DM))):=AQ (j:=13) (by kernel_rfl) (hJ.valOf (by decide) (AY AJ 13 (by kernel_rfl)) rfl rfl)
       have e1:a.eval (.tmp 116)=(.string (strOfNums (59::(DX++ [82])))):=AQ (j:=14) (by kernel_rfl) (hJ.valOf (by decide) (AY AJ 14 (by kernel_rfl)) rfl rfl)
       refine Step.val _ rfl rfl (Ao (g:=9) (b:=true) rfl gd) (.string (strOfNums (27::91::(DM++59::(DX++ [82]))))) w' (fun ρ hρ=>?_) (hJ.val hGS hcl hL rfl (Below.refl _ _) _ rfl)
       rw [hρ] at e0 e1
       clear hJ hsame AJ hcl hρ hsz hb gd
       go_simp
       rw [if_neg (by
        have u1:=LY.out
        have u2:=LM.out
        have u3:=ZY.out
        have u4:=ZM.out
        have u5:=ZX.out
        have ySTB:=STB.out
        simp only [List.length_cons] at ySTB
        have kE:=STC.out
        simp only [List.length_append,List.length_cons,List.length_nil] at kE
        omega)]
       refine congrArg (fun z=>Result.ok (Next.value (Value.string z)) w') ?_
       exact(D6 (27::91::DM) (59::(DX++ [82]))).trans (congrArg strOfNums (by simp))
      ·intro L a w' hL hsame hsz hJ AJ hcl
       have gd:valOf _ 9 a=.bool true:=hJ.valOf (by decide) (AY AJ 9 (by kernel_rfl)) rfl rfl
       have hb:=hJ.kept.toBelow (Nat.le_refl _) (by simp)
       have e0:a.eval (.tmp 112)=(.string (strOfNums (27::91::(DM++59::(DX++ [82]))))):=AQ (j:=10) (by kernel_rfl) (hJ.valOf (by decide) (AY AJ 10 (by kernel_rfl)) rfl rfl)
       have e1:a.eval (.tmp 117)=(.string (strOfNums (27::91::(DM++59::(DX++ [82]))))):=AQ (j:=15) (by kernel_rfl) (hJ.valOf (by decide) (AY AJ 15 (by kernel_rfl)) rfl rfl)
       refine Step.val _ rfl rfl (Ao (g:=9) (b:=true) rfl gd) (.bool true) w' (fun ρ hρ=>?_) (hJ.val hGS hcl hL rfl (Below.refl _ _) _ rfl)
       rw [hρ] at e0 e1
       clear hJ hsame AJ hcl hρ hsz hb gd
       go_simp
      ·intro L a w' hL hsame hsz hJ AJ hcl
       have hb:=hJ.kept.toBelow (Nat.le_refl _) (by simp)
       have e0:a.eval (.tmp 111)=(.bool true):=AQ (j:=9) (by kernel_rfl) (hJ.valOf (by decide) (AY AJ 9 (by kernel_rfl)) rfl rfl)
       have e1:a.eval (.tmp 118)=(.bool true):=AQ (j:=16) (by kernel_rfl) (hJ.valOf (by decide) (AY AJ 16 (by kernel_rfl)) rfl rfl)
       refine Step.val _ rfl rfl (AU rfl) (.bool true) w' (fun ρ hρ=>?_) (hJ.val hGS hcl hL rfl (Below.refl _ _) _ rfl)
       rw [hρ] at e0 e1
       have ec0:ρ (.const (.bool false))=(.bool false):=(hρ _).symm
       clear hJ hsame AJ hcl hρ hsz hb
       go_simp
      ·intro L a w' hL hsame hsz hJ AJ hcl
       have hb:=hJ.kept.toBelow (Nat.le_refl _) (by simp)
       have e0:a.eval (.tmp 119)=(.bool true):=AQ (j:=17) (by kernel_rfl) (hJ.valOf (by decide) (AY AJ 17 (by kernel_rfl)) rfl rfl)
       refine Step.val _ rfl rfl (AU rfl) (.bool true) w' (fun ρ hρ=>?_) (hJ.val hGS hcl hL rfl (Below.refl _ _) _ rfl)
       rw [hρ] at e0
       clear hJ hsame AJ hcl hρ hsz hb
       go_simp
      ·intro L a w' hL hsame hsz hJ AJ hcl
       have gd:valOf _ 18 a=.bool true:=hJ.valOf (by decide) (AY AJ 18 (by kernel_rfl)) rfl rfl
       have hb:=hJ.kept.toBelow (Nat.le_refl _) (by simp)
       have e0:a.eval (.tmp 9)=(.pointer (some ⟨gs,0,none⟩)):=AZ hsame (by kernel_rfl)
       have hx:=hJ.Ah ((show Box _ gs 43 (scA (.slice A1 (F.g.rows*F.g.AB) c1) F) from Me.out)) (by simp)
       exact Step.val _ rfl rfl (Ao (g:=18) (b:=true) rfl gd) (.agg (scA (.slice A1 (F.g.rows*F.g.AB) c1) F)) w' (fun ρ hρ=>BG hx rfl ρ _ rfl ((hρ _).symm.trans e0)) (hJ.val hGS hcl hL rfl (Below.refl _ _) _ rfl)
      ·intro L a w' hL hsame hsz hJ AJ hcl
       have gd:valOf _ 18 a=.bool true:=hJ.valOf (by decide) (AY AJ 18 (by kernel_rfl)) rfl rfl
       have hb:=hJ.kept.toBelow (Nat.le_refl _) (by simp)
       have e0:a.eval (.tmp 10)=(.pointer (some ⟨ga,0,none⟩)):=AZ hsame (by kernel_rfl)
       have hx:=hJ.Ah ((show Box _ ga 34 #[.int .i64 4,.int .i32 0,.int .u8 0,.int .u8 0,.int .u8 110,.slice Aa 1 ca,.string {data:= #[]}] from HABn.out)) (by simp)
       have q0:w'.cell? ⟨ga,0,none⟩=some (.int .i64 4):=hx.cell 0
       have q1:w'.cell? ⟨ga,1,none⟩=some (.int .i32 0):=hx.cell 1
       have q2:w'.cell? ⟨ga,2,none⟩=some (.int .u8 0):=hx.cell 2
       have q3:w'.cell? ⟨ga,3,none⟩=some (.int .u8 0):=hx.cell 3
       have q4:w'.cell? ⟨ga,4,none⟩=some (.int .u8 110):=hx.cell 4
       have q5:w'.cell? ⟨ga,5,none⟩=some (.slice Aa 1 ca):=hx.cell 5
       have q6:w'.cell? ⟨ga,6,none⟩=some (.string {data:= #[]}):=hx.cell 6
       refine Step.val _ rfl rfl (Ao (g:=18) (b:=true) rfl gd) (.agg #[.int .i64 4,.int .i32 0,.int .u8 0,.int .u8 0,.int .u8 110,.slice Aa 1 ca,.string {data:= #[]}]) w' (fun ρ hρ=>?_) (hJ.val hGS hcl hL rfl (Below.refl _ _) _ rfl)
       clear hx
       rw [hρ] at e0
       clear hJ hsame AJ hcl hρ hsz hb gd
       go_simp
      ·intro L a w' hL hsame hsz hJ AJ hcl
       have gd:valOf _ 18 a=.bool true:=hJ.valOf (by decide) (AY AJ 18 (by kernel_rfl)) rfl rfl
       have hb:=hJ.kept.toBelow (Nat.le_refl _) (by simp)
       have e0:a.eval (.tmp 121)=(.agg (scA (.slice A1 (F.g.rows*F.g.AB) c1) F)):=AQ (j:=19) (by kernel_rfl) (hJ.valOf (by decide) (AY AJ 19 (by kernel_rfl)) rfl rfl)
       have e1:a.eval (.tmp 122)=(.agg #[.int .i64 4,.int .i32 0,.int .u8 0,.int .u8 0,.int .u8 110,.slice Aa 1 ca,.string {data:= #[]}]):=AQ (j:=20) (by kernel_rfl) (hJ.valOf (by decide) (AY AJ 20 (by kernel_rfl)) rfl rfl)
       refine Step.call _ rfl rfl (Ao (g:=18) (b:=true) rfl gd) 15 #[.agg (scA (.slice A1 (F.g.rows*F.g.AB) c1) F),.agg #[.int .i64 4,.int .i32 0,.int .u8 0,.int .u8 0,.int .u8 110,.slice Aa 1 ca,.string {data:= #[]}]] (fun ρ hρ=>?_) ?_
       ·skip
        rw [hρ] at e0 e1
        have ef:ρ (.func 15)=.func (.func 15) #[] #[] :=(hρ _).symm
        clear hJ hsame AJ hcl hρ hsz hb gd
        go_simp
       ·refine(DO6.out w' _ _ _ (Om.out.trans (hb.mono Om.out.size)) hca ((HASn.out.below hb).more hb.size) ⟨_,rfl,(Uf.out.low hb)⟩).mono ?_
        rintro e w2 ⟨v,rfl,hi,bb⟩
        exact⟨_,rfl,hJ.pred hGS hcl hL rfl bb _ (FC hi)⟩
      ·intro L a w' hL hsame hsz hJ AJ hcl
       have gd:valOf _ 18 a=.bool true:=hJ.valOf (by decide) (AY AJ 18 (by kernel_rfl)) rfl rfl
       have hb:=hJ.kept.toBelow (Nat.le_refl _) (by simp)
       have e0:a.eval (.tmp 9)=(.pointer (some ⟨gs,0,none⟩)):=AZ hsame (by kernel_rfl)
       have hx:=hJ.Ah ((show Box _ gs 43 (scA (.slice A1 (F.g.rows*F.g.AB) c1) F) from Me.out)) (by simp)
       exact Step.val _ rfl rfl (Ao (g:=18) (b:=true) rfl gd) (.agg (scA (.slice A1 (F.g.rows*F.g.AB) c1) F)) w' (fun ρ hρ=>BG hx rfl ρ _ rfl ((hρ _).symm.trans e0)) (hJ.val hGS hcl hL rfl (Below.refl _ _) _ rfl)
      ·intro L a w' hL hsame hsz hJ AJ hcl
       have gd:valOf _ 18 a=.bool true:=hJ.valOf (by decide) (AY AJ 18 (by kernel_rfl)) rfl rfl
       have hb:=hJ.kept.toBelow (Nat.le_refl _) (by simp)
       obtain⟨Y6,Y7,hv21,hi21⟩:=(show(EH F) (valOf _ 21 a) w' from hJ.Bc (by decide) (AY AJ 21 (by kernel_rfl)) rfl)
       have e0:a.eval (.tmp 123)=.agg (scA (.slice Y6 (F.g.rows*F.g.AB) Y7) F):=AQ (j:=21) (by kernel_rfl) hv21
       have e1:a.eval (.tmp 124)=(.agg (scA (.slice A1 (F.g.rows*F.g.AB) c1) F)):=AQ (j:=22) (by kernel_rfl) (hJ.valOf (by decide) (AY AJ 22 (by kernel_rfl)) rfl rfl)
       refine Step.call _ rfl rfl (Ao (g:=18) (b:=true) rfl gd) 16 #[.agg (scA (.slice Y6 (F.g.rows*F.g.AB) Y7) F),.agg (scA (.slice A1 (F.g.rows*F.g.AB) c1) F)] (fun ρ hρ=>?_) ?_
       ·skip
        rw [hρ] at e0 e1
        have ef:ρ (.func 16)=.func (.func 16) #[] #[] :=(hρ _).symm
        clear hJ hsame AJ hcl hρ hsz hb gd
        go_simp
       ·refine(HSC.out w' _ _ _ _ hi21 (Uf.out.low hb)).mono ?_
        rintro e w2 ⟨rfl,bb⟩
        exact⟨_,rfl,hJ.val hGS hcl hL rfl bb _ rfl⟩
      ·intro L a w' hL hsame hsz hJ AJ hcl
       have hb:=hJ.kept.toBelow (Nat.le_refl _) (by simp)
       have e0:a.eval (.tmp 120)=(.bool true):=AQ (j:=18) (by kernel_rfl) (hJ.valOf (by decide) (AY AJ 18 (by kernel_rfl)) rfl rfl)
       have e1:a.eval (.tmp 125)=(.bool true):=AQ (j:=23) (by kernel_rfl) (hJ.valOf (by decide) (AY AJ 23 (by kernel_rfl)) rfl rfl)
       refine Step.val _ rfl rfl (AU rfl) (.bool true) w' (fun ρ hρ=>?_) (hJ.val hGS hcl hL rfl (Below.refl _ _) _ rfl)
       rw [hρ] at e0 e1
       have ec0:ρ (.const (.bool false))=(.bool false):=(hρ _).symm
       clear hJ hsame AJ hcl hρ hsz hb
       go_simp
      ·intro L a w' hL hsame hsz hJ AJ hcl
       have hb:=hJ.kept.toBelow (Nat.le_refl _) (by simp)
       have e0:a.eval (.tmp 126)=(.bool true):=AQ (j:=24) (by kernel_rfl) (hJ.valOf (by decide) (AY AJ 24 (by kernel_rfl)) rfl rfl)
       refine Step.val _ rfl rfl (AU rfl) (.bool true) w' (fun ρ hρ=>?_) (hJ.val hGS hcl hL rfl (Below.refl _ _) _ rfl)
       rw [hρ] at e0
       clear hJ hsame AJ hcl hρ hsz hb
       go_simp
      ·intro L a w' hL hsame hsz hJ AJ hcl
       have gd:valOf _ 25 a=.bool true:=hJ.valOf (by decide) (AY AJ 25 (by kernel_rfl)) rfl rfl
       have hb:=hJ.kept.toBelow (Nat.le_refl _) (by simp)
       refine Step.call _ rfl rfl (Ao (g:=25) (b:=true) rfl gd) 33 #[] (fun ρ hρ=>?_) ?_
       ·skip
        have ef:ρ (.func 33)=.func (.func 33) #[] #[] :=(hρ _).symm
        clear hJ hsame AJ hcl hρ hsz hb gd
        go_simp
       ·refine(RUN.out w' (Om.out.trans (hb.mono Om.out.size))).mono ?_
        rintro e w2 ⟨rfl,bb⟩
        exact⟨_,rfl,hJ.val hGS hcl hL rfl bb _ rfl⟩
      ·intro L a w' hL hsame hsz hJ AJ hcl
       have hb:=hJ.kept.toBelow (Nat.le_refl _) (by simp)
       have e0:a.eval (.tmp 127)=(.bool true):=AQ (j:=25) (by kernel_rfl) (hJ.valOf (by decide) (AY AJ 25 (by kernel_rfl)) rfl rfl)
       have e1:a.eval (.tmp 128)=(.bool true):=AQ (j:=26) (by kernel_rfl) (hJ.valOf (by decide) (AY AJ 26 (by kernel_rfl)) rfl rfl)
       refine Step.val _ rfl rfl (AU rfl) (.bool true) w' (fun ρ hρ=>?_) (hJ.val hGS hcl hL rfl (Below.refl _ _) _ rfl)
       rw [hρ] at e0 e1
       have ec0:ρ (.const (.bool false))=(.bool false):=(hρ _).symm
       clear hJ hsame AJ hcl hρ hsz hb
       go_simp
      ·intro L a w' hL hsame hsz hJ AJ hcl
       have hb:=hJ.kept.toBelow (Nat.le_refl _) (by simp)
       have e0:a.eval (.tmp 129)=(.bool true):=AQ (j:=27) (by kernel_rfl) (hJ.valOf (by decide) (AY AJ 27 (by kernel_rfl)) rfl rfl)
       refine Step.val _ rfl rfl (AU rfl) (.bool true) w' (fun ρ hρ=>?_) (hJ.val hGS hcl hL rfl (Below.refl _ _) _ rfl)
       rw [hρ] at e0
       clear hJ hsame AJ hcl hρ hsz hb
       go_simp
      ·intro u w' hF
       change Exit.then _ _ Exit.normal (Act.put (Act.put (Act.put (Act.put (Act.put (Act.put (Act.put (Act.put (Act.put (Act.put (Act.put (Act.put (Act.put (Act.put (Act.put (Act.put (Act.put (Act.put (Act.put (Act.put (Act.put (Act.put (Act.put (Act.put (Act.put (Act.put (Act.put (Act.put (Act.put (Aq _ u 0 _) (some 102) (u 0)) (some 103) (u 1)) (some 104) (u 2)) (some 105) (u 3)) (some 106) (u 4)) (some 107) (u 5)) (some 108) (u 6)) (some 109) (u 7)) (some 110) (u 8)) (some 111) (u 9)) (some 112) (u 10)) (some 113) (u 11)) (some 114) (u 12)) (some 115) (u 13)) (some 116) (u 14)) (some 117) (u 15)) (some 118) (u 16)) (some 119) (u 17)) (some 120) (u 18)) (some 121) (u 19)) (some 122) (u 20)) (some 123) (u 21)) (some 124) (u 22)) (some 125) (u 23)) (some 126) (u 24)) (some 127) (u 25)) (some 128) (u 26)) (some 129) (u 27)) (some 8) (u 28)) _
       simp only [Aq]
       obtain f28:u 28=.bool true:=hF.Nu (j:=28) (by decide) rfl rfl
       have hk:=hF.kept.toBelow (Nat.le_refl _) (by simp)
       clear hF
       generalize u 0=y0
       generalize u 1=y1
       generalize u 2=y2
       generalize u 3=y3
       generalize u 4=y4
       generalize u 5=y5
       generalize u 6=y6
       generalize u 7=y7
       generalize u 8=y8
       generalize u 9=y9
       generalize u 10=y10
       generalize u 11=y11
       generalize u 12=y12
       generalize u 13=y13
       generalize u 14=y14
       generalize u 15=y15
       generalize u 16=y16
       generalize u 17=y17
       generalize u 18=y18
       generalize u 19=y19
       generalize u 20=y20
       generalize u 21=y21
       generalize u 22=y22
       generalize u 23=y23
       generalize u 24=y24
       generalize u 25=y25
       generalize u 26=y26
       generalize u 27=y27
       generalize u 28=y28 at f28⊢
       subst f28
       go_simp
       go_step
       go_wp2_with fail
       go_ret
       exact⟨rfl,Om.out.trans (hk.mono Om.out.size)⟩
end Go.Proofs.YtoaabebgmdbjeaaGreatDoor
