/- A part of the proof: OpenKeep, OpenKeepN, SourceReset, SourceResetAny. -/
import Derived.Test.YtoaabebgmdbjeaaGreatDoorQb26
import Derived.Test.YtoaabebgmdbjeaaGreatDoorQb24
import Derived.Test.YtoaabebgmdbjeaaGreatDoorQb25
set_option maxRecDepth 100000
set_option maxHeartbeats 16000000
set_option linter.unusedVariables false
namespace Go.Proofs.YtoaabebgmdbjeaaGreatDoor
open Go Go.Joins Go.ChangeShapes Go.WideShapes Go.RowKit Go.Deep
section
variable {H:Type} {enc:TypeId × Value->H} {w:World} {held:Bool}
theorem Gy {P:Program} {k:IntKind} {t:TypeId} {n:Nat} {u:Value} {y:DataW H × List MemPlace} (he:P.underlying t=some (.int k)) (h:DataW.trod enc P w 0 (fun _=>true) held n t [u] =some y):
  ∃z,u=.int k z/\(Lit.int k z).wf=true:=by
 obtain⟨z,hc,_,hw⟩:=DataW.trod_int he h
 simp only [List.cons.injEq,and_true] at hc
 exact⟨z,hc,by first | exact hw | exact hw.1 | simpa using hw⟩
end
end Go.Proofs.YtoaabebgmdbjeaaGreatDoor
namespace Go.Proofs.YtoaabebgmdbjeaaGreatDoor
open Go Go.Joins Go.ChangeShapes Go.WideShapes Go.RowKit Go.Deep
theorem Arg.below {k:IntKind} {w w':World} {A:Option Addr} {n c:Nat} {l:List Int} (h:Arg k w A n c l) (b:Below w.heap.size w w'):Arg k w' A n c l:=
 ⟨h.len,(h.seen.below b).more b.size,h.wf,h.le,h.cap,h.nil⟩
structure kV (w:World) (kd rn fn:Int) (Ap:Option Addr) (np cp:Nat) (lp:List Int) (At:Option Addr) (nt ct:Nat) (lt:List Int):Prop where
 hk: -9223372036854775808<=kd/\kd<=9223372036854775807
 hr: -9223372036854775808<=rn/\rn<=9223372036854775807
 hf: -9223372036854775808<=fn/\fn<=9223372036854775807
 hP:Arg .i64 w Ap np cp lp
 hT:Arg .u8 w At nt ct lt
theorem kV.below {w w':World} {kd rn fn:Int} {Ap:Option Addr} {np cp:Nat} {lp:List Int} {At:Option Addr} {nt ct:Nat} {lt:List Int} (h:kV w kd rn fn Ap np cp lp At nt ct lt) (b:Below w.heap.size w w'):kV w' kd rn fn Ap np cp lp At nt ct lt:=
 ⟨h.hk,h.hr,h.hf,h.hP.below b,h.hT.below b⟩
def PV (w:World) (A:Option Addr) (n:Nat):Prop:=
 ∀i,i<n-> ∃(ad:Addr) (kd rn fn:Int) (Ap:Option Addr) (np cp:Nat) (lp:List Int) (At:Option Addr) (nt ct:Nat) (lt:List Int),A=some ad/\ad.block<w.heap.size/\
  w.cell? (ad.add (i*5))=some (.int .i64 kd)/\w.cell? ⟨(ad.add (i*5)).block,(ad.add (i*5)).off+1,none⟩=some (.int .i64 rn)/\w.cell? ⟨(ad.add (i*5)).block,(ad.add (i*5)).off+2,none⟩=some (.int .i64 fn)/\w.cell? ⟨(ad.add (i*5)).block,(ad.add (i*5)).off+3,none⟩=some (.slice Ap np cp)/\w.cell? ⟨(ad.add (i*5)).block,(ad.add (i*5)).off+4,none⟩=some (.slice At nt ct)/\
  kV w kd rn fn Ap np cp lp At nt ct lt
theorem PV.below {w w':World} {A:Option Addr} {n:Nat} (h:PV w A n) (b:Below w.heap.size w w'):PV w' A n:=fun i hi=>by
 obtain⟨ad,kd,rn,fn,Ap,np,cp,lp,At,nt,ct,lt,h1,h2,c0,c1,c2,c3,c4,hk⟩:=h i hi
 have cz:w'.cell? (ad.add (i*5))=w.cell? (ad.add (i*5)):=b.cell (p:=ad.add (i*5)) (by rw [addBlock];exact h2)
 have cc: ∀j,w'.cell? ⟨(ad.add (i*5)).block,j,none⟩=w.cell? ⟨(ad.add (i*5)).block,j,none⟩:=fun j=>b.cell (p:=⟨(ad.add (i*5)).block,j,none⟩) (by show(ad.add (i*5)).block<_;rw [addBlock];exact h2)
 exact⟨ad,kd,rn,fn,Ap,np,cp,lp,At,nt,ct,lt,h1,Nat.lt_of_lt_of_le h2 b.size,cz.trans c0,(cc _).trans c1,(cc _).trans c2,(cc _).trans c3,(cc _).trans c4,hk.below b⟩
theorem kW (a:Addr) (k j:Nat) (hj:j≠0):a.add (k+j)=⟨(a.add k).block,(a.add k).off+j,none⟩:=by
 rw [<- add_add]
 generalize a.add k=b
 simp [Addr.add,hj]
theorem Uh {H:Type} {enc:TypeId × Value->H} {w:World} {held:Bool} {A:Option Addr} {n c:Nat} {d:DataW H} {p:List MemPlace} (h:DataW.Trod enc Tryz.prog w 0 (fun _=>true) held 53 (.slice A n c) d p):n<=maxLen/\PV w A n:=by
 obtain⟨fuel,hf⟩:=h
 obtain⟨fs,hfs⟩: ∃fs,Tryz.prog.underlying 32=some (.struct fs):=⟨_,Tryz.underlying32⟩
 rcases L8 (n:=fuel) Tryz.underlying53 Tryz.underlying32 (by kernel_rfl) (by kernel_rfl) hf with h0 | ⟨a,len,cap,hv,hl,hm,hi⟩
 ·injection h0 with h1 h2 _
  subst h2
  exact⟨Nat.zero_le _,fun i hi=>by omega⟩
 ·injection hv with h1 h2 h3
  subst h1 h2 h3
  refine⟨Nat.le_trans hl hm,fun i hin=>?_⟩
  obtain⟨m,hj⟩:=hi i hin
  obtain⟨u0,y0,c0,t0⟩:=hj 0 _ rfl
  obtain⟨u1,y1,c1,t1⟩:=hj 1 _ rfl
  obtain⟨u2,y2,c2,t2⟩:=hj 2 _ rfl
  obtain⟨u3,y3,c3,t3⟩:=hj 3 _ rfl
  obtain⟨u4,y4,c4,t4⟩:=hj 4 _ rfl
  obtain⟨kd,rfl,w0⟩:=Gy Tryz.underlying3 t0
  obtain⟨rn,rfl,w1⟩:=Gy Tryz.underlying3 t1
  obtain⟨fn,rfl,w2⟩:=Gy Tryz.underlying3 t2
  obtain⟨Ap,np,cp,lp,rfl,ap⟩:=Ed (k:=.i64) Tryz.underlying22 Tryz.underlying3 (by kernel_rfl) t3
  obtain⟨At,nt,ct,lt,rfl,at_⟩:=Ed (k:=.u8) Tryz.underlying30 Tryz.underlying5 (by kernel_rfl) t4
  have c0:w.cell? (a.add (i*5))=some (.int .i64 kd):=c0
  have c1:w.cell? (a.add (i*5+1))=some (.int .i64 rn):=c1
  have c2:w.cell? (a.add (i*5+2))=some (.int .i64 fn):=c2
  have c3:w.cell? (a.add (i*5+3))=some (.slice Ap np cp):=c3
  have c4:w.cell? (a.add (i*5+4))=some (.slice At nt ct):=c4
  rw [kW a _ _ (by omega)] at c1 c2 c3 c4
  have hb:=World.block_lt_of_cell? w _ c0
  rw [addBlock] at hb
  exact⟨a,kd,rn,fn,Ap,np,cp,lp,At,nt,ct,lt,rfl,hb,c0,c1,c2,c3,c4,bounds_i64 w0,bounds_i64 w1,bounds_i64 w2,ap,at_⟩
end Go.Proofs.YtoaabebgmdbjeaaGreatDoor
namespace Go.Proofs.YtoaabebgmdbjeaaGreatDoor
open Go Go.RowKit
theorem R9 (T:SN.Sc) (A A':Option Addr) (c c':Nat) (hT:SN.Ad T) (w:World) (h:IsG w T.g (gv T.g.rows T.g.AB (.slice A (T.g.rows*T.g.AB) c))) (h':IsG w T.g (gv T.g.rows T.g.AB (.slice A' (T.g.rows*T.g.AB) c'))):
  Calls Tryz.prog 23 #[.agg (scA (.slice A (T.g.rows*T.g.AB) c) T),.agg (scA (.slice A' (T.g.rows*T.g.AB) c') T)] w fun e w'=>e=.returned (.bool true)/\Below w.heap.size w w':=
 bn (SN.raw T) (SN.raw T) _ _ true true ⟨fun _=>PG.Alike.refl _,fun _=>rfl⟩ (by simp [SN.Rw.same]) w h h'
def EvG (ev:PA.Ev) (v:Value) (w:World):Prop:= ∃A c,v=.agg #[.int .i64 ev.kind,.int .i32 ev.rune,.int .u8 ev.priv,.int .u8 ev.inter,.int .u8 ev.final,.slice A ev.params.length c,.string (strOfNums ev.text)] /\ev.params.length<=c/\Seen w w.heap.size A ev.params.length (GN ev.params)
theorem EvG.stays {ev:PA.Ev}:Fz [] (EvG ev):=⟨fun v w w' ⟨A,c,h1,h2,h3⟩ hb=>⟨A,c,h1,h2,(h3.below hb).more hb.size⟩,fun v w w' g' T' cs' h hb hT hk=>by simp at hT⟩
theorem OO (kcs:Array Value) (Ak:Option Addr) (nk ck:Nat) (S:SN.Sc) (w:World) (hk13:kcs.size=13) (hS:SN.Ad S) (hR5:S.g.rows<=5) (hK9:S.g.AB<=9) (hT:Gh w) (ht:Fp w) (hKA:PV w Ak nk) (hnk:nk<=maxLen)
  (KS:Hid (∀w',Below w.heap.size w w'->Calls Tryz.prog 11 #[.agg kcs] w' (BF w' S))):
  Calls Tryz.prog 8 #[.agg kcs,.slice Ak nk ck] w fun e w'=>e=.returned (.bool true)/\Below w.heap.size w w':=by
 have RS:=hide hS
 have HT:=hide hT
 have HTB:=hide ht
 have KA:=hide hKA
 have hnk2:=hnk
 unfold maxLen at hnk2
 have LO0:=hide (Below.refl w.heap.size w)
 obtain⟨R,hR⟩: ∃R,S.g.rows=R:=⟨_,rfl⟩
 obtain⟨K,hK⟩: ∃K,S.g.AB=K:=⟨_,rfl⟩
 have hR1:1<=R:=hR▸hS.g.1
 have hK1:1<=K:=hK▸hS.g.2.2.1
 rw [hR] at hR5
 rw [hK] at hK9
 obtain⟨F,hF⟩: ∃F,SN.full R K=F:=⟨_,rfl⟩
 have RF:=hide (hF▸SN.IC hR1 (by omega) hK1 (by omega):SN.Ad F)
 have DF:=hide (fun w' v' (hw:Below w.heap.size w w') h=>(show SN.doS S 3 0 0 0 99 [] =F by rw [<- hF, <- hR, <- hK];rfl)▸kM S v' 3 99 w' hS (by omega) (hT.keep hw) h)
 have NW:=hide (fun w'=>hF▸MO (R:Int) (K:Int) R K (by unfold SN.cut;omega) (by unfold SN.cut;omega) (by omega) (by omega) w')
 have ER:=hide hR
 have EK:=hide hK
 clear hT ht hF hS hKA hnk hR hK
 go_enter Tryz.func8,Tryz.ntmps8
 go_wp2_with (first | (refine OC hk13 rfl _ rfl rfl ?_;intro gk wk hKB hbk hlk) | (refine M4 hKB rfl _ rfl rfl ?_))
 have LO1:=hide (LO0.out.trans (hbk.mono LO0.out.size))
 clear LO0 hbk
 refine(KS.out _ LO1.out).mono ?_
 rintro e wb1 ⟨v1,rfl,⟨x1,rfl,hg1⟩,hb1⟩
 have LO2:=hide (LO1.out.trans (hb1.mono LO1.out.size))
 clear LO1 hb1
 obtain⟨A1,c1,rfl⟩:=Af hg1
 have dF:=hide hg1
 clear hg1
 go_upto_region 2 with (first | (refine BX rfl rfl ?_;intro gs sF sG Lu bO LG bP) | (refine AU Lu bO rfl _ _ rfl rfl rfl rfl ?_;intro Nu R5 LH bQ))
 have bS:w.heap.size<=gs:=by have:=LO2.out.size;omega
 have dG:=hide (dF.out.low LG)
 have LO3:=hide (LO2.out.trans (LG.mono LO2.out.size))
 clear dF LO2 LG
 have YK:=hide (dG.out.kept Lu (by decide) LH)
 have LO4:=hide (LO3.out.trans (LH.toBelow LO3.out.size (fun k hh=>by simp at hh;omega)))
 clear dG LO3
 have Kk:=hide R5
 clear R5 LH Lu bP
 clear bQ
 go_simp
 go_wp2_with (first | (refine AY Kk.out rfl _ rfl rfl ?_))
 refine(DF.out _ _ LO4.out ⟨_,rfl,YK.out⟩).mono ?_
 rintro e wb2 ⟨v2,rfl,⟨x2,rfl,hg2⟩,hb2⟩
 have QN:=hide (Kk.out.below hb2 Kk.out.lt)
 have tL:=hide (YK.out.low hb2)
 have LO5:=hide (LO4.out.trans (hb2.mono LO4.out.size))
 clear Kk YK LO4 hb2
 obtain⟨A2,c2,rfl⟩:=Af hg2
 have dH:=hide hg2
 clear hg2
 go_upto_region 3 with (first | (refine BX rfl rfl ?_;intro gt wagt csgt OM oQ LJ oU) | (refine AU OM oQ rfl _ _ rfl rfl rfl rfl ?_;intro wsgt bV LM oV))
 have Nv:gs≠gt:=by have:=QN.out.lt;omega
 have sQ:w.heap.size<=gt:=by have:=LO5.out.size;omega
 have bW:=hide (QN.out.below LJ QN.out.lt)
 have tN:=hide (tL.out.low LJ)
 have o7:=hide (dH.out.low LJ)
 have LO6:=hide (LO5.out.trans (LJ.mono LO5.out.size))
 clear QN tL dH LO5 LJ
 have Lv:=hide (bW.out.kept LM (by simp;first | exact Nv | exact Ne.symm bX))
 have tO:=hide (tN.out.kept OM (by decide) LM)
 have tQ:=hide (o7.out.kept OM (by decide) LM)
 have LO7:=hide (LO6.out.trans (LM.toBelow LO6.out.size (fun k hh=>by simp at hh;omega)))
 clear bW tN o7 LO6
 have Nw:=hide bV
 clear bV LM OM oU
 clear oV
 go_simp
 have Ny:=(show _=some (.int .i64 (R:Nat):Value) from(Lv.out.c0).trans (by first | (rw [ER.out];done) | (rw [ER.out];rfl)))
 have Nz:=(show _=some (.int .i64 (K:Nat):Value) from(Lv.out.c1).trans (by first | (rw [EK.out];done) | (rw [EK.out];rfl)))
 go_wp2_with fail
 clear Ny Nz
 refine(NW.out _).mono ?_
 rintro e wb3 ⟨v3,rfl,⟨x3,rfl,hg3⟩,hb3⟩
 have N7:=hide (Lv.out.below hb3 Lv.out.lt)
 have QO:=hide (Nw.out.below hb3 Nw.out.lt)
 have tT:=hide (tO.out.low hb3)
 have tV:=hide (tQ.out.low hb3)
 have LO8:=hide (LO7.out.trans (hb3.mono LO7.out.size))
 clear Lv Nw tO tQ LO7 hb3
 obtain⟨A3,c3,rfl⟩:=Af hg3
 have dI:=hide hg3
 clear hg3
 go_upto_region 4 with (first | (refine BX rfl rfl ?_;intro gn wagn csgn dJ hzgn Ui hlgn) | (refine AU dJ hzgn rfl _ _ rfl rfl rfl rfl ?_;intro wsgn tX Uj hqgn))
 have dK:gs≠gn:=by have:=N7.out.lt;omega
 have N8:gt≠gn:=by have:=QO.out.lt;omega
 have le_gn:w.heap.size<=gn:=by have:=LO8.out.size;omega
 have YG:=hide (N7.out.below Ui N7.out.lt)
 have QS:=hide (QO.out.below Ui QO.out.lt)
 have tY:=hide (tT.out.low Ui)
 have tZ:=hide (tV.out.low Ui)
 have o8:=hide (dI.out.low Ui)
 have LO9:=hide (LO8.out.trans (Ui.mono LO8.out.size))
 clear N7 QO tT tV dI LO8 Ui
 have kR:=hide (YG.out.kept Uj (by simp;first | exact dK | exact Ne.symm tq))
 have YH:=hide (QS.out.kept Uj (by simp;first | exact N8 | exact Ne.symm tu))
 have uD:=hide (tY.out.kept dJ (by decide) Uj)
 have pE:=hide (tZ.out.kept dJ (by decide) Uj)
 have pF:=hide (o8.out.kept dJ (by decide) Uj)
 have Ud:=hide (LO9.out.trans (Uj.toBelow LO9.out.size (fun k hh=>by simp at hh;omega)))
 clear YG QS tY tZ o8 LO9
 have SA:=hide tX
 clear tX Uj dJ hlgn
 clear hqgn
 go_simp
 go_wp2_with (first | (refine AY YH.out rfl _ rfl rfl ?_) | (refine AY SA.out rfl _ rfl rfl ?_))
 refine(R9 F _ _ _ _ RF.out _ pE.out pF.out).mono ?_
 rintro e wq ⟨rfl,hq⟩
 have HSs8:=hide (kR.out.below hq kR.out.lt)
 have uE:=hide (YH.out.below hq YH.out.lt)
 have pG:=hide (SA.out.below hq SA.out.lt)
 have uF:=hide (uD.out.low hq)
 have uH:=hide (pE.out.low hq)
 have uI:=hide (pF.out.low hq)
 have kS:=hide (Ud.out.trans (hq.mono Ud.out.size))
 clear kR YH SA uD pE pF Ud hq
 go_wp2_with fail
 go_loopw [8] (fun u wr=> ∃(i:Nat) (T:SN.Sc) (A:Option Addr) (c:Nat) (A':Option Addr) (c':Nat),i<=15/\i<=nk/\u=.int .i64 i/\Hid (SN.Ad T)/\Hid (Au wr gt (.slice A (T.g.rows*T.g.AB) c) T)/\Hid (Au wr gn (.slice A' (T.g.rows*T.g.AB) c') T)/\Hid (IsG wr T.g (gv T.g.rows T.g.AB (.slice A (T.g.rows*T.g.AB) c)))/\Hid (IsG wr T.g (gv T.g.rows T.g.AB (.slice A' (T.g.rows*T.g.AB) c')))/\Hid (Below w.heap.size w wr)) (fun i _=>15-(intOf i).toNat)
 case atStart=>exact⟨0,F,_,_,_,_,by omega,Nat.zero_le _,rfl,RF,uE,pG,uH,uI,kS⟩
 case round=>
  clear uE pG uH uI kS HSs8 uF RF DF NW
  obtain⟨i,T,A,c,A',c',hi15,hik,rfl,RT,HSt,HSn,HGt,HGn,HLO⟩:=hrel
  obtain⟨go,hgo⟩: ∃b,decide (i<nk/\i<15)=b:=⟨_,rfl⟩
  have HGO:=hide hgo
  clear hgo
  go_upto_region 7 with fail
  go_cut [32] from 25 to 32 (fun u wx=>u=.bool go/\wx=wr)
  case first=>
   by_cases h1:i<nk
   ·by_cases h2:i<15
    ·obtain rfl:true=go:=by rw [<- HGO.out];exact(decide_eq_true ⟨h1,h2⟩).symm
     go_wp2_with fail
     go_meet
     first | exact⟨rfl,rfl⟩ | exact⟨congrArg Value.bool (decide_eq_true (by omega)),rfl⟩
    ·obtain rfl:false=go:=by rw [<- HGO.out];exact(decide_eq_false (fun h=>h2 h.2)).symm
     go_wp2_with fail
     go_meet
     first | exact⟨rfl,rfl⟩ | exact⟨congrArg Value.bool (decide_eq_false (by omega)),rfl⟩
   ·obtain rfl:false=go:=by rw [<- HGO.out];exact(decide_eq_false (fun h=>h1 h.1)).symm
    go_wp2_with fail
    go_meet
    exact⟨rfl,rfl⟩
  case rest=>
   obtain⟨rfl,hw⟩:=hcut
   subst hw
   rename World=>wr
   cases go with
   | true=>
    obtain⟨h1,h2⟩:i<nk/\i<15:=of_decide_eq_true HGO.out
    obtain⟨ad,kd,rn,fn,Ap,np,cp,lp,At,nt,ct,lt,rfl,had,q0,q1,q2,q3,q4,hk⟩:=(KA.out.below HLO.out) i h1
    have KE:=hide (fun w' (hb:Below wr.heap.size wr w')=>R7 kd rn fn Ap At np cp nt ct w' lp lt hk.hk hk.hr hk.hf (hk.hP.below hb) (hk.hT.below hb))
    have hfit:=PA.Ti (PA.Jm kd rn fn lp lt)
    generalize PA.Cu kd rn fn lp lt=ev at hfit KE
    obtain⟨T',hT'⟩: ∃T',SN.Zi T ev=T':=⟨_,rfl⟩
    have hT2:SN.doS T ev.kind ev.rune ev.priv ev.inter ev.final ev.params=T':=hT'
    have RT':=hide (hT'▸SN.NS RT.out ev:SN.Ad T')
    have DO:=hide (fun w' v' A' c' (hw:Below wr.heap.size wr w') (hc:ev.params.length<=c') (hx:Seen w' w'.heap.size A' ev.params.length (GN ev.params)) h=>hT2▸bG T v' ev.kind ev.rune ev.priv ev.inter ev.final A' ev.params.length c' w'.heap.size (strOfNums ev.text) ev.params w' RT.out hx (Nat.le_refl _) (by have:=hfit.len;omega) hc hfit.nums hfit.rune ((HT.out.keep HLO.out).keep hw) h)
    have KQ:=hide (show _/\_/\_/\_/\_ from⟨q0,q1,q2,q3,q4⟩)
    clear hk hfit hT' hT2 q0 q1 q2 q3 q4 HGO
    go_upto_region 9 with fail
    refine OL (n:=55) 14 [] (fun _=> #[]) [(0,0,0,0,0),(0,0,0,0,0),(0,0,0,0,0),(0,0,0,0,0),(0,0,0,0,0),(1,0,0,0,0),(1,0,0,0,0),(0,0,0,0,0),(0,0,0,0,0),(0,0,0,0,0),(0,0,0,0,0),(0,0,0,0,0),(1,0,0,0,0),(1,0,0,0,0),(0,0,0,0,0),(0,0,0,0,0)] (fun j=> [(.agg (scA (.slice A (T.g.rows*T.g.AB) c) T)),(.slice (some ad) nk ck),(.int .i64 (i:Nat)),(.pointer (some (ad.add (i*5)))),(.agg #[.int .i64 kd,.int .i64 rn,.int .i64 fn,.slice Ap np cp,.slice At nt ct]),undef,undef,(.agg (scA (.slice A' (T.g.rows*T.g.AB) c') T)),(.slice (some ad) nk ck),(.int .i64 (i:Nat)),(.pointer (some (ad.add (i*5)))),(.agg #[.int .i64 kd,.int .i64 rn,.int .i64 fn,.slice Ap np cp,.slice At nt ct]),undef,undef,undef,undef].getD j undef) [none,none,none,none,none,some (EvG ev),some (EH T'),none,none,none,none,none,some (EvG ev),some (EH T')] (fun _=>0) (by kernel_rfl) (by kernel_rfl) (by kernel_rfl) rfl (by kernel_rfl) (by kernel_rfl) (DV rfl) (fun i j h=>by revert h;exact DV (p:=fun _=>_) rfl i) (Ao.none_ (Ao.none_ (Ao.none_ (Ao.none_ (Ao.none_ (Ao.some_ (EvG.stays) (Ao.some_ (EH.stays (by kernel_rfl)) (Ao.none_ (Ao.none_ (Ao.none_ (Ao.none_ (Ao.none_ (Ao.some_ (EvG.stays) (Ao.some_ (EH.stays (by kernel_rfl)) (Ao.nil _))))))))))))))) (fun hGS=>Pj ⟨?_,?_,?_,?_,?_,?_,?_,?_,?_,?_,?_,?_,?_,?_⟩) ?_
    ·intro L a w' hL hsame hsz hJ AJ hcl
     have hb:=hJ.kept.toBelow (Nat.le_refl _) (by simp)
     have e0:a.eval (.tmp 6)=(.pointer (some ⟨gt,0,none⟩)):=AZ hsame (by kernel_rfl)
     have hx:=hJ.Aj ((show Box _ gt 43 (scA (.slice A (T.g.rows*T.g.AB) c) T) from HSt.out)) (by simp)
     exact Step.val _ rfl rfl (AV rfl) (.agg (scA (.slice A (T.g.rows*T.g.AB) c) T)) w' (fun ρ hρ=>BO hx rfl ρ _ rfl ((hρ _).symm.trans e0)) (hJ.val hGS hcl hL rfl (Below.refl _ _) _ rfl)
    ·intro L a w' hL hsame hsz hJ AJ hcl
     refine Ay hJ hGS hcl hL 1 (.slice (some ad) nk ck) (.slice (some ad) nk ck) (AZ hsame (by kernel_rfl)) _ rfl rfl rfl rfl rfl fun ρ _ e0=>?_
     clear hJ hsame AJ hcl hsz
     go_simp
    ·intro L a w' hL hsame hsz hJ AJ hcl
     refine Ay hJ hGS hcl hL 8 (.int .i64 (i:Nat)) (.int .i64 (i:Nat)) (AZ hsame (by kernel_rfl)) _ rfl rfl rfl rfl rfl fun ρ _ e0=>?_
     clear hJ hsame AJ hcl hsz
     go_simp
    ·intro L a w' hL hsame hsz hJ AJ hcl
     refine gH hJ hGS hcl hL 36 37 (.slice (some ad) nk ck) (.int .i64 (i:Nat)) (.pointer (some (ad.add (i*5)))) (gslot hJ AJ 1 (by kernel_rfl) (by kernel_rfl) (by decide) rfl rfl) (gslot hJ AJ 2 (by kernel_rfl) (by kernel_rfl) (by decide) rfl rfl) _ rfl rfl rfl rfl rfl fun ρ _ e0 e1=>?_
     clear hJ hsame AJ hcl hsz
     go_simp
    ·intro L a w' hL hsame hsz hJ AJ hcl
     have hb:=hJ.kept.toBelow (Nat.le_refl _) (by simp)
     have e0:a.eval (.tmp 38)=(.pointer (some (ad.add (i*5)))):=AQ (j:=3) (by kernel_rfl) (hJ.valOf (by decide) (AX AJ 3 (by kernel_rfl)) rfl rfl)
     refine Step.val _ rfl rfl (AV rfl) (.agg #[.int .i64 kd,.int .i64 rn,.int .i64 fn,.slice Ap np cp,.slice At nt ct]) w' (fun ρ hρ=>?_) (hJ.val hGS hcl hL rfl (Below.refl _ _) _ rfl)
     rw [hρ] at e0
     have hc0:=(hb.cell (p:=ad.add (i*5)) (by rw [addBlock];exact had)).trans KQ.out.1
     have hc1:=(hb.cell (p:=⟨(ad.add (i*5)).block,(ad.add (i*5)).off+1,none⟩) (by show(ad.add (i*5)).block<_;rw [addBlock];exact had)).trans KQ.out.2.1
     have hc2:=(hb.cell (p:=⟨(ad.add (i*5)).block,(ad.add (i*5)).off+2,none⟩) (by show(ad.add (i*5)).block<_;rw [addBlock];exact had)).trans KQ.out.2.2.1
     have hc3:=(hb.cell (p:=⟨(ad.add (i*5)).block,(ad.add (i*5)).off+3,none⟩) (by show(ad.add (i*5)).block<_;rw [addBlock];exact had)).trans KQ.out.2.2.2.1
     have hc4:=(hb.cell (p:=⟨(ad.add (i*5)).block,(ad.add (i*5)).off+4,none⟩) (by show(ad.add (i*5)).block<_;rw [addBlock];exact had)).trans KQ.out.2.2.2.2
     clear hJ hsame AJ hcl hρ hsz hb
     go_simp
    ·intro L a w' hL hsame hsz hJ AJ hcl
     have hb:=hJ.kept.toBelow (Nat.le_refl _) (by simp)
     have e0:a.eval (.tmp 39)=(.agg #[.int .i64 kd,.int .i64 rn,.int .i64 fn,.slice Ap np cp,.slice At nt ct]):=AQ (j:=4) (by kernel_rfl) (hJ.valOf (by decide) (AX AJ 4 (by kernel_rfl)) rfl rfl)
     refine Step.call _ rfl rfl (AV rfl) 13 #[.agg #[.int .i64 kd,.int .i64 rn,.int .i64 fn,.slice Ap np cp,.slice At nt ct]] (fun ρ hρ=>?_) ?_
     ·skip
      rw [hρ] at e0
      have ef:ρ (.func 13)=.func (.func 13) #[] #[] :=(hρ _).symm
      clear hJ hsame AJ hcl hρ hsz hb
      go_simp
     ·refine(KE.out _ hb).mono ?_
      rintro e w2 ⟨Ax,cx,rfl,hx,bb,_,hcx⟩
      exact⟨_,rfl,hJ.pred hGS hcl hL rfl bb _ ⟨Ax,cx,rfl,hcx,hx⟩⟩
    ·intro L a w' hL hsame hsz hJ AJ hcl
     have hb:=hJ.kept.toBelow (Nat.le_refl _) (by simp)
     have e0:a.eval (.tmp 35)=(.agg (scA (.slice A (T.g.rows*T.g.AB) c) T)):=AQ (j:=0) (by kernel_rfl) (hJ.valOf (by decide) (AX AJ 0 (by kernel_rfl)) rfl rfl)
     obtain⟨A5',c5',hv5,hc5',hs5⟩:=(show(EvG ev) (valOf _ 5 a) w' from hJ.Co (by decide) (AX AJ 5 (by kernel_rfl)) rfl)
     have e1:a.eval (.tmp 40)=.agg #[.int .i64 ev.kind,.int .i32 ev.rune,.int .u8 ev.priv,.int .u8 ev.inter,.int .u8 ev.final,.slice A5' ev.params.length c5',.string (strOfNums ev.text)] :=AQ (j:=5) (by kernel_rfl) hv5
     refine Step.call _ rfl rfl (AV rfl) 15 #[.agg (scA (.slice A (T.g.rows*T.g.AB) c) T),.agg #[.int .i64 ev.kind,.int .i32 ev.rune,.int .u8 ev.priv,.int .u8 ev.inter,.int .u8 ev.final,.slice A5' ev.params.length c5',.string (strOfNums ev.text)]] (fun ρ hρ=>?_) ?_
     ·skip
      rw [hρ] at e0 e1
      have ef:ρ (.func 15)=.func (.func 15) #[] #[] :=(hρ _).symm
      clear hJ hsame AJ hcl hρ hsz hb
      go_simp
     ·refine(DO.out _ _ _ _ hb hc5' hs5 ⟨_,rfl,HGt.out.low hb⟩).mono ?_
      rintro e w2 ⟨v,rfl,hi,bb⟩
      exact⟨_,rfl,hJ.pred hGS hcl hL rfl bb _ (Er hi)⟩
    ·intro L a w' hL hsame hsz hJ AJ hcl
     have hb:=hJ.kept.toBelow (Nat.le_refl _) (by simp)
     have e0:a.eval (.tmp 7)=(.pointer (some ⟨gn,0,none⟩)):=AZ hsame (by kernel_rfl)
     have hx:=hJ.Aj ((show Box _ gn 43 (scA (.slice A' (T.g.rows*T.g.AB) c') T) from HSn.out)) (by simp)
     exact Step.val _ rfl rfl (AV rfl) (.agg (scA (.slice A' (T.g.rows*T.g.AB) c') T)) w' (fun ρ hρ=>BO hx rfl ρ _ rfl ((hρ _).symm.trans e0)) (hJ.val hGS hcl hL rfl (Below.refl _ _) _ rfl)
    ·intro L a w' hL hsame hsz hJ AJ hcl
     refine Ay hJ hGS hcl hL 1 (.slice (some ad) nk ck) (.slice (some ad) nk ck) (AZ hsame (by kernel_rfl)) _ rfl rfl rfl rfl rfl fun ρ _ e0=>?_
     clear hJ hsame AJ hcl hsz
     go_simp
    ·intro L a w' hL hsame hsz hJ AJ hcl
     refine Ay hJ hGS hcl hL 8 (.int .i64 (i:Nat)) (.int .i64 (i:Nat)) (AZ hsame (by kernel_rfl)) _ rfl rfl rfl rfl rfl fun ρ _ e0=>?_
     clear hJ hsame AJ hcl hsz
     go_simp
    ·intro L a w' hL hsame hsz hJ AJ hcl
     refine gH hJ hGS hcl hL 43 44 (.slice (some ad) nk ck) (.int .i64 (i:Nat)) (.pointer (some (ad.add (i*5)))) (gslot hJ AJ 8 (by kernel_rfl) (by kernel_rfl) (by decide) rfl rfl) (gslot hJ AJ 9 (by kernel_rfl) (by kernel_rfl) (by decide) rfl rfl) _ rfl rfl rfl rfl rfl fun ρ _ e0 e1=>?_
     clear hJ hsame AJ hcl hsz
     go_simp
    ·intro L a w' hL hsame hsz hJ AJ hcl
     have hb:=hJ.kept.toBelow (Nat.le_refl _) (by simp)
     have e0:a.eval (.tmp 45)=(.pointer (some (ad.add (i*5)))):=AQ (j:=10) (by kernel_rfl) (hJ.valOf (by decide) (AX AJ 10 (by kernel_rfl)) rfl rfl)
     refine Step.val _ rfl rfl (AV rfl) (.agg #[.int .i64 kd,.int .i64 rn,.int .i64 fn,.slice Ap np cp,.slice At nt ct]) w' (fun ρ hρ=>?_) (hJ.val hGS hcl hL rfl (Below.refl _ _) _ rfl)
     rw [hρ] at e0
     have hc0:=(hb.cell (p:=ad.add (i*5)) (by rw [addBlock];exact had)).trans KQ.out.1
     have hc1:=(hb.cell (p:=⟨(ad.add (i*5)).block,(ad.add (i*5)).off+1,none⟩) (by show(ad.add (i*5)).block<_;rw [addBlock];exact had)).trans KQ.out.2.1
     have hc2:=(hb.cell (p:=⟨(ad.add (i*5)).block,(ad.add (i*5)).off+2,none⟩) (by show(ad.add (i*5)).block<_;rw [addBlock];exact had)).trans KQ.out.2.2.1
     have hc3:=(hb.cell (p:=⟨(ad.add (i*5)).block,(ad.add (i*5)).off+3,none⟩) (by show(ad.add (i*5)).block<_;rw [addBlock];exact had)).trans KQ.out.2.2.2.1
     have hc4:=(hb.cell (p:=⟨(ad.add (i*5)).block,(ad.add (i*5)).off+4,none⟩) (by show(ad.add (i*5)).block<_;rw [addBlock];exact had)).trans KQ.out.2.2.2.2
     clear hJ hsame AJ hcl hρ hsz hb
     go_simp
    ·intro L a w' hL hsame hsz hJ AJ hcl
     have hb:=hJ.kept.toBelow (Nat.le_refl _) (by simp)
     have e0:a.eval (.tmp 46)=(.agg #[.int .i64 kd,.int .i64 rn,.int .i64 fn,.slice Ap np cp,.slice At nt ct]):=AQ (j:=11) (by kernel_rfl) (hJ.valOf (by decide) (AX AJ 11 (by kernel_rfl)) rfl rfl)
     refine Step.call _ rfl rfl (AV rfl) 13 #[.agg #[.int .i64 kd,.int .i64 rn,.int .i64 fn,.slice Ap np cp,.slice At nt ct]] (fun ρ hρ=>?_) ?_
     ·skip
      rw [hρ] at e0
      have ef:ρ (.func 13)=.func (.func 13) #[] #[] :=(hρ _).symm
      clear hJ hsame AJ hcl hρ hsz hb
      go_simp
     ·refine(KE.out _ hb).mono ?_
      rintro e w2 ⟨Ax,cx,rfl,hx,bb,_,hcx⟩
      exact⟨_,rfl,hJ.pred hGS hcl hL rfl bb _ ⟨Ax,cx,rfl,hcx,hx⟩⟩
    ·intro L a w' hL hsame hsz hJ AJ hcl
     have hb:=hJ.kept.toBelow (Nat.le_refl _) (by simp)
     have e0:a.eval (.tmp 42)=(.agg (scA (.slice A' (T.g.rows*T.g.AB) c') T)):=AQ (j:=7) (by kernel_rfl) (hJ.valOf (by decide) (AX AJ 7 (by kernel_rfl)) rfl rfl)
     obtain⟨ay,bA,hv12,uJ,hs12⟩:=(show(EvG ev) (valOf _ 12 a) w' from hJ.Co (by decide) (AX AJ 12 (by kernel_rfl)) rfl)
     have e1:a.eval (.tmp 47)=.agg #[.int .i64 ev.kind,.int .i32 ev.rune,.int .u8 ev.priv,.int .u8 ev.inter,.int .u8 ev.final,.slice ay ev.params.length bA,.string (strOfNums ev.text)] :=AQ (j:=12) (by kernel_rfl) hv12
     refine Step.call _ rfl rfl (AV rfl) 15 #[.agg (scA (.slice A' (T.g.rows*T.g.AB) c') T),.agg #[.int .i64 ev.kind,.int .i32 ev.rune,.int .u8 ev.priv,.int .u8 ev.inter,.int .u8 ev.final,.slice ay ev.params.length bA,.string (strOfNums ev.text)]] (fun ρ hρ=>?_) ?_
     ·skip
      rw [hρ] at e0 e1
      have ef:ρ (.func 15)=.func (.func 15) #[] #[] :=(hρ _).symm
      clear hJ hsame AJ hcl hρ hsz hb
      go_simp
     ·refine(DO.out _ _ _ _ hb uJ hs12 ⟨_,rfl,HGn.out.low hb⟩).mono ?_
      rintro e w2 ⟨v,rfl,hi,bb⟩
      exact⟨_,rfl,hJ.pred hGS hcl hL rfl bb _ (Er hi)⟩
    ·intro L u w' hF hall
     change wpList _ _ _ _ (Act.put (Act.put (Act.put (Act.put (Act.put (Act.put (Act.put (Act.put (Act.put (Act.put (Act.put (Act.put (Act.put (Act.put (Act.put (Act.put (BD _ u 0 _) (some 35) (u 0)) (some 36) (u 1)) (some 37) (u 2)) (some 38) (u 3)) (some 39) (u 4)) (some 40) (u 5)) (some 41) (u 6)) (some 42) (u 7)) (some 43) (u 8)) (some 44) (u 9)) (some 45) (u 10)) (some 46) (u 11)) (some 47) (u 12)) (some 48) (u 13)) none (u 14)) none (u 15)) _
     simp only [BD]
     obtain⟨Aa,ca,fa,hia⟩:=(show EH T' (u 6) w' from hF.Co (j:=6) (by decide) (hall 6 (by decide)) rfl)
     obtain⟨Ab,cb,fb,hib⟩:=(show EH T' (u 13) w' from hF.Co (j:=13) (by decide) (hall 13 (by decide)) rfl)
     have hk:=hF.kept.toBelow (Nat.le_refl _) (by simp)
     clear hF
     generalize u 0=z0
     generalize u 1=z1
     generalize u 2=z2
     generalize u 3=z3
     generalize u 4=z4
     generalize u 5=z5
     generalize u 6=z6 at fa⊢
     generalize u 7=z7
     generalize u 8=z8
     generalize u 9=z9
     generalize u 10=z10
     generalize u 11=z11
     generalize u 12=z12
     generalize u 13=z13 at fb⊢
     generalize u 14=z14
     generalize u 15=z15
     subst fa fb
     simp only [List.drop_succ_cons,List.drop_zero]
     have hG9:=HSt.out.below hk HSt.out.lt
     have hW9:=HSn.out.below hk HSn.out.lt
     refine AU (x:=.slice Aa (T'.g.rows*T'.g.AB) ca) (s:=T') hG9 (I8 _ _) rfl _ _ rfl (by((repeat(first | rw [Dz] | rw [Dy (by decide)]));rfl)) (by((repeat(first | rw [Dz] | rw [Dy (by decide)]));rw [IV (by(repeat rw [Cb]);exact Nat.lt_of_lt_of_le (m:=55) (by decide) (Nat.le_refl 55))])) rfl ?_
     intro wx1 hB1 hk1 hq1
     have pI:=hW9.kept hk1 (by simp;exact Ne.symm N8)
     refine AU (x:=.slice Ab (T'.g.rows*T'.g.AB) cb) (s:=T') pI (I8 _ _) rfl _ _ rfl (by((repeat(first | rw [Dz] | rw [Dy (by decide)]));rfl)) (by((repeat(first | rw [Dz] | rw [Dy (by decide)]));rw [IV (by(repeat rw [Cb]);exact Nat.lt_of_lt_of_le (m:=55) (by decide) (Nat.le_refl 55))])) rfl ?_
     intro wx2 hB2 hk2 hq2
     have hSa:=hB1.kept hk2 (by simp;exact N8)
     have hGa:=(hia.kept hG9 (by decide) hk1).kept pI (by decide) hk2
     have hGb:=(hib.kept hG9 (by decide) hk1).kept pI (by decide) hk2
     have hkx:=((Kept.of_below (L:= [some gt,some gn]) hk).trans hk1 (fun x hx=>From.mem (by simp at hx;simp [hx]))).trans hk2 (fun x hx=>From.mem (by simp at hx;simp [hx]))
     have hlo:=hkx.toBelow HLO.out.size (fun k hh=>by simp at hh;omega)
     go_simp
     go_step
     go_wp2_with fail
     go_roundw
     case rel=>exact⟨i+1,T',Aa,ca,Ab,cb,by omega,by omega,by go_num,RT',hide hSa,hide hB2,hide hGa,hide hGb,hide (HLO.out.trans hlo)⟩
     case measure=>simp [intOf];omega
   | false=>
    clear HGO
    have kX:=HSt
    have kY:=HSn
    have pJ:=HGt
    have pK:=HGn
    have pO:=HLO
    clear HSt HSn HGt HGn HLO
    go_upto_region 10 with fail
    go_wp2_with (first | (refine AY kX.out rfl _ rfl rfl ?_) | (refine AY kY.out rfl _ rfl rfl ?_))
    refine(R9 T _ _ _ _ RT.out _ pJ.out pK.out).mono ?_
    rintro e wq1 ⟨rfl,hq1⟩
    have Nw:=hide (kX.out.below hq1 kX.out.lt)
    have SA:=hide (kY.out.below hq1 kY.out.lt)
    have dH:=hide (pJ.out.low hq1)
    have dI:=hide (pK.out.low hq1)
    have dL:=hide (pO.out.trans (hq1.mono pO.out.size))
    clear kX kY pJ pK pO hq1
    go_wp2_with fail
    refine(EO _ (HT.out.keep dL.out) (HTB.out.keep dL.out)).mono ?_
    rintro e wq5 ⟨rfl,hq5⟩
    have QO:=hide (Nw.out.below hq5 Nw.out.lt)
    have pG:=hide (SA.out.below hq5 SA.out.lt)
    have o7:=hide (dH.out.low hq5)
    have o8:=hide (dI.out.low hq5)
    have LO_2:=hide (dL.out.trans (hq5.mono dL.out.size))
    clear Nw SA dH dI dL hq5
    go_wp2_with fail
    go_ret
    exact⟨rfl,LO_2.out⟩
end Go.Proofs.YtoaabebgmdbjeaaGreatDoor
namespace Go.Proofs.YtoaabebgmdbjeaaGreatDoor
open Go.RowKit
theorem MB (rw cl:Int) (Ap:Option Addr) (np cp:Nat) (lp:List Int) (At:Option Addr) (nt ct:Nat) (lt:List Int) (a b c d e p q r u:Int) (Ak:Option Addr) (nk ck:Nat) (w:World)
  (hr:(Lit.int .i64 rw).wf=true) (hc:(Lit.int .i64 cl).wf=true) (hp:Arg .i64 w Ap np cp lp) (ht:Arg .i64 w At nt ct lt) (ha:(Lit.int .i64 a).wf=true) (hb:(Lit.int .i64 b).wf=true) (hc':(Lit.int .i64 c).wf=true) (hd:(Lit.int .i64 d).wf=true) (he:(Lit.int .i64 e).wf=true)
  (hp0:(Lit.int .i64 p).wf=true) (hp1:(Lit.int .i64 q).wf=true) (hp2:(Lit.int .i64 r).wf=true) (hu:(Lit.int .u64 u).wf=true) (hka:PV w Ak nk) (hnl:nk<=maxLen) (h1:Ew w) (h2:GL w) (h3:Jt w) (h4:DZ w) (h5:Fp w):
  Calls Tryz.prog 8 #[.agg #[.int .i64 rw,.int .i64 cl,.slice Ap np cp,.slice At nt ct,.int .i64 a,.int .i64 b,.int .i64 c,.int .i64 d,.int .i64 e,.int .i64 p,.int .i64 q,.int .i64 r,.int .u64 u],.slice Ak nk ck] w fun e w'=>e=.returned (.bool true)/\Below w.heap.size w w':=by
 obtain⟨S,hS,hR5,hK9,KS⟩:=TM rw cl Ap np cp lp At nt ct lt a b c d e p q r u w hr hc hp ht ha hb hc' hd he hp0 hp1 hp2 hu
 exact OO _ Ak nk ck S w rfl hS hR5 hK9 ⟨h1,h2,h3,h4⟩ h5 hka hnl KS
end Go.Proofs.YtoaabebgmdbjeaaGreatDoor
