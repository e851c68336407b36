/- A parser in memory: its block, the rows that it gathers in; the contracts of begin, semicolon, digit, gather, printed. Events in memory; the contracts of printed, gather, and of one appended event. The contract of decode: the runes that a byte makes, as events. The contract of do: one action with a byte. The contract of do where it says a CSI; and of do, whatever the action. The contract of take: one byte of a parser. -/
import Derived.Test.YtoaabebgmdbjeaaGreatDoorSb10
import Derived.Laws.BytesArg
import Derived.Deep.AppendLies
set_option maxRecDepth 100000
set_option maxHeartbeats 16000000
set_option linter.unusedVariables false
namespace Go.Proofs.YtoaabebgmdbjeaaGreatDoor
open Go.RowKit
def EO (l:List Int):List Value:=l.map (Value.int .i64)
theorem QY:(Tryz.prog.info? 3).map (fun i=>(i.zero,i.size,i.bytes))=some (some (.int .i64 0),1,8):=by kernel_rfl
def Cz (s:PA.S) (vp vt:Value):Array Value:= #[.int .u8 s.st,.int .i64 s.dec.need,.int .i64 s.dec.have_,.int .i64 s.dec.acc,.int .u8 s.d.priv,.int .u8 s.d.inter,.int .i64 s.d.parts,vp,vt]
structure PB (w:World) (B g:Nat) (s:PA.S) (vp vt:Value):Prop where
 box:Box w g 99 (Cz s vp vt)
 par:w.ownsRow B 3 1 vp s.d.params.length (EO s.d.params)
 txt:w.ownsRow B 5 1 vt s.d.text.length (u8s s.d.text)
 low:B<=g
 pn:s.d.params= [] ->vp=.slice none 0 0
 tn:s.d.text= [] ->vt=.slice none 0 0
theorem Box.nine {w:World} {g:Nat} {t:TypeId} {a b c d e f h i j:Value} (x:Box w g t #[a,b,c,d,e,f,h,i,j]):
  w.cell? ⟨g,0,none⟩=some a/\w.cell? ⟨g,1,none⟩=some b/\w.cell? ⟨g,2,none⟩=some c/\w.cell? ⟨g,3,none⟩=some d/\w.cell? ⟨g,4,none⟩=some e/\w.cell? ⟨g,5,none⟩=some f/\w.cell? ⟨g,6,none⟩=some h/\w.cell? ⟨g,7,none⟩=some i/\w.cell? ⟨g,8,none⟩=some j:=
 ⟨x.cell 0,x.cell 1,x.cell 2,x.cell 3,x.cell 4,x.cell 5,x.cell 6,x.cell 7,x.cell 8⟩
theorem PB.lt {w:World} {B g:Nat} {s:PA.S} {vp vt:Value} (h:PB w B g s vp vt):g<w.heap.size:=h.box.lt
theorem PB.kept {w w':World} {L:List (Option Nat)} {B g:Nat} {s:PA.S} {vp vt:Value} (h:PB w B g s vp vt) (k:Kept L w w') (hg:some g∉L) (hp: ∀b,vp.ownBlock=some b->some b∉L) (ht: ∀b,vt.ownBlock=some b->some b∉L):PB w' B g s vp vt:=
 ⟨h.box.kept k hg,BH h.par k hp,BH h.txt k ht,h.low,h.pn,h.tn⟩
theorem PB.below {w w':World} {B g:Nat} {s:PA.S} {vp vt:Value} (h:PB w B g s vp vt) (hb:Below w.heap.size w w'):PB w' B g s vp vt:=
 h.kept (Kept.of_below (L:= []) hb) (by simp) (by simp) (by simp)
theorem PB.alloc {w:World} {B g:Nat} {s:PA.S} {vp vt:Value} (h:PB w B g s vp vt) (o:Obj):PB (w.alloc o) B g s vp vt:=h.below ((Below.refl _ _).alloc (Nat.le_refl _) _)
theorem PB.drewN {w:World} {B g:Nat} {s:PA.S} {vp vt:Value} (h:PB w B g s vp vt) (n:Nat):PB (w.drewN n) B g s vp vt:=⟨h.box,h.par,h.txt,h.low,h.pn,h.tn⟩
theorem PB.pne {w:World} {B g:Nat} {s:PA.S} {vp vt:Value} (h:PB w B g s vp vt):vp.ownBlock≠some g:=Aa h.par h.box (by decide)
theorem PB.tne {w:World} {B g:Nat} {s:PA.S} {vp vt:Value} (h:PB w B g s vp vt):vt.ownBlock≠some g:=Aa h.txt h.box (by decide)
theorem PB.store {w:World} {B g:Nat} {s s':PA.S} {vp vt vp' vt':Value} (h:PB w B g s vp vt) (i:Nat) (u:Value) (hc:(Cz s vp vt).setIfInBounds i u=Cz s' vp' vt')
  (hp:w.ownsRow B 3 1 vp' s'.d.params.length (EO s'.d.params)) (ht:w.ownsRow B 5 1 vt' s'.d.text.length (u8s s'.d.text)) (pn:s'.d.params= [] ->vp'=.slice none 0 0) (tn:s'.d.text= [] ->vt'=.slice none 0 0):
  PB (w.setCell ⟨g,i,none⟩ u) B g s' vp' vt':=
 ⟨by rw [<- hc];exact h.box.set i u,BF hp (Aa hp h.box (by decide)) u,BF ht (Aa ht h.box (by decide)) u,h.low,pn,tn⟩
def Did (w:World) (B g:Nat) (s':PA.S) (vp vt:Value) (e:Ending) (w':World):Prop:=
 ∃vp' vt',e=.returned (.tuple #[])/\PB w' B g s' vp' vt'/\Kept [some g,vp.ownBlock,vt.ownBlock] w w'/\From w [vp.ownBlock] vp'.ownBlock/\From w [vt.ownBlock] vt'.ownBlock
theorem JL (B g:Nat) (s:PA.S) (vp vt:Value) (w:World) (h:PB w B g s vp vt) (hk:s.d.ok) (hn:s.d.parts<=1099511627776):
  Calls Tryz.prog 203 #[.pointer (some ⟨g,4,none⟩)] w (Did w B g ⟨s.st,s.dec,s.d.begin_⟩ vp vt):=by
 obtain⟨i0,hi,hz0,hz1,hz2⟩:=info_parts QY
 obtain⟨k0,k1,k2,k3,k4,k5,k6,k7,k8⟩:=h.box.nine
 have fr:=h.box.frozen
 have hlt:=h.lt
 have hBw:B<=w.heap.size:=by have:=h.low;omega
 have hp:=h.par
 have hlen:=hk.len
 have hpl:s.d.params.length<=16:=by omega
 have HB:=hide h
 have HL:=hide hlen
 have eq1:(s.d.parts:Int)+1=((s.d.parts+1:Nat):Int):=by omega
 have EQ:=hide eq1
 clear hlen eq1 h hk
 by_cases kI:s.d.parts<16
 ·have E:=hide (show s.d.begin_=⟨s.d.priv,s.d.inter,s.d.parts+1,s.d.params++ [-1],s.d.text⟩ by unfold PA.D.begin_;rw [if_pos kI])
  go_enter Tryz.func203,Tryz.ntmps203
  go_wp2_with (at_builtin;refine BM rfl (.tmp 11) (.tmp 12) 22 rfl B 3 i0 _ 8 Tryz.underlying22 hi hz0 hz1 hz2 rfl vp s.d.params.length _ rfl hp _ _ _ rfl rfl rfl (by omega) (by omega) hBw ?_;intro v' w1 hown1 hg1 hm1;(obtain⟨A1,c1,rfl,_⟩:=C9 hown1);(have hb1:=HB.out.box.grown hg1 (fun e=>HB.out.pne e.symm));(obtain⟨j0,j1,j2,j3,j4,j5,j6,j7,j8⟩:=hb1.nine);(have fr1:=hb1.frozen))
  go_end0
  have hpn:some g∉ [vp.ownBlock] :=by simpa using fun e=>HB.out.pne e.symm
  have hvt:w1.ownsRow B 5 1 vt s.d.text.length (u8s s.d.text):=HB.out.txt.kept hg1 (by
   rcases hq:vt.ownBlock with _ | b
   ·exact .inl rfl
   ·exact .inr (fun e=>Bv HB.out.txt HB.out.par (by decide) hq e.symm))
  have hne1:=Aa hown1 hb1 (by decide)
  have qB:=Aa hvt hb1 (by decide)
  rw [E.out]
  refine⟨_,vt,rfl,⟨?_,?_,BF (BF hvt qB _) qB _,HB.out.low,fun e=>by simp at e,HB.out.tn⟩,?_,From.moved hm1,From.mem (by simp)⟩
  ·have:=(hb1.set 7 (.slice A1 (s.d.params.length+1) c1)).set 6 (.int .i64 ((s.d.parts:Int)+1))
   simpa [Cz] using this
  ·have:=BF (BF hown1 hne1 (p:=⟨g,7,none⟩) (.slice A1 (s.d.params.length+1) c1)) hne1 (p:=⟨g,6,none⟩) (.int .i64 ((s.d.parts:Int)+1))
   simpa [EO] using this
  ·exact(((Kept.refl _ w).grown hg1 (From.mem (by simp))).setCell (From.mem (by simp)) _).setCell (From.mem (by simp)) _
 ·have E:=hide (show s.d.begin_=⟨s.d.priv,s.d.inter,s.d.parts+1,s.d.params,s.d.text⟩ by unfold PA.D.begin_;rw [if_neg kI])
  go_enter Tryz.func203,Tryz.ntmps203
  go_wp2_with fail
  go_end0
  rw [E.out]
  refine⟨vp,vt,rfl,HB.out.store 6 _ ?_ HB.out.par HB.out.txt HB.out.pn HB.out.tn,?_,From.mem (by simp),From.mem (by simp)⟩
  ·simp [Cz]
  ·exact(Kept.refl _ w).setCell (From.mem (by simp)) _
theorem Did.WX {w w1 w2:World} {B g:Nat} {s':PA.S} {vp vt vp1 vt1:Value} {e:Ending} (h:Did w1 B g s' vp1 vt1 e w2) (k:Kept [some g,vp.ownBlock,vt.ownBlock] w w1) (hp:From w [vp.ownBlock] vp1.ownBlock) (ht:From w [vt.ownBlock] vt1.ownBlock):
  Did w B g s' vp vt e w2:=by
 obtain⟨vp2,vt2,he,hP,hK,h1,h2⟩:=h
 refine⟨vp2,vt2,he,hP,k.trans hK ?_,h1.Gc hp k.size,h2.Gc ht k.size⟩
 intro x hx
 simp only [List.mem_cons,List.not_mem_nil,or_false] at hx
 rcases hx with rfl | rfl | rfl
 ·exact From.mem (by simp)
 ·exact hp.mono (by simp)
 ·exact ht.mono (by simp)
theorem ZO (B g:Nat) (s:PA.S) (vp vt:Value) (w:World) (h:PB w B g s vp vt) (hk:s.d.ok) (hn:s.d.parts<=1099511627770):
  Calls Tryz.prog 177 #[.pointer (some ⟨g,4,none⟩)] w (Did w B g ⟨s.st,s.dec,s.d.semi⟩ vp vt):=by
 obtain⟨k0,k1,k2,k3,k4,k5,k6,k7,k8⟩:=h.box.nine
 have hfp:=PA.GY s.d
 have BA:=hide (fun w' vp' vt' h'=>JL B g ⟨s.st,s.dec,s.d.first⟩ vp' vt' w' h' (PA.Js hk) (by simp only [];omega))
 have B0:=hide (JL B g s vp vt w h hk (by omega))
 have HB:=hide h
 clear h hfp
 by_cases h0:s.d.parts=0
 ·have E:=hide (show s.d.first=s.d.begin_ by unfold PA.D.first;rw [if_pos h0])
  have h0':((s.d.parts:Int)==0)=true:=by simp [h0]
  clear h0
  go_enter Tryz.func177,Tryz.ntmps177
  go_wp2_with fail
  refine B0.out.mono ?_
  rintro e w1 ⟨vp1,vt1,rfl,hP,hK,hp1,ht1⟩
  rw [<- E.out] at hP
  go_wp2_with fail
  refine(BA.out _ _ _ hP).mono ?_
  intro e w2 hD
  have hD':=hD.WX hK hp1 ht1
  obtain⟨vp2,vt2,rfl,r⟩:=hD'
  go_wp2_with fail
  go_end0
  exact⟨vp2,vt2,rfl,r⟩
 ·have E:=hide (show s.d.first=s.d by unfold PA.D.first;rw [if_neg h0])
  have h0':((s.d.parts:Int)==0)=false:=by simpa using h0
  clear h0
  have hP:=HB.out
  go_enter Tryz.func177,Tryz.ntmps177
  go_wp2_with fail
  refine(BA.out _ _ _ (by rw [E.out];exact HB.out)).mono ?_
  rintro e w2 ⟨vp2,vt2,rfl,r⟩
  go_wp2_with fail
  go_end0
  exact⟨vp2,vt2,rfl,r⟩
theorem Ur (B g m:Nat) (s:PA.S) (vp vt:Value) (n:Int) (w:World) (h:PB w B g s vp vt) (hk:s.d.ok) (hm:s.d.parts=m+1) (h16:m+1<=16):
  ∃c x y,vp=.slice (some ⟨c,0,none⟩) (m+1) x/\w.cell? ⟨c,m,none⟩=some (.int .i64 y)/\w.frozen? ⟨c,m,none⟩=false/\ ¬c=g/\ -1<=y/\y<=65535/\
   s.d.put n=⟨s.d.priv,s.d.inter,s.d.parts,s.d.params.set m (PA.up y n),s.d.text⟩/\
   ∀u:Int,PB (w.setCell ⟨c,m,none⟩ (.int .i64 u)) B g ⟨s.st,s.dec,⟨s.d.priv,s.d.inter,s.d.parts,s.d.params.set m u,s.d.text⟩⟩ vp vt:=by
 have hlen:s.d.params.length=m+1:=by have:=hk.len;omega
 have hlt:m<s.d.params.length:=by omega
 have hp:=h.par
 have qC:=hk.nums _ (List.getElem_mem hlt)
 have hgd:s.d.params.getD m 0=s.d.params[m] :=by rw [List.getD_eq_getElem?_getD,List.getElem?_eq_getElem hlt];rfl
 obtain⟨A,c,hv,_⟩:=C9 hp
 rcases A with _ | ad
 ·subst hv
  have:s.d.params.length=0:=by
   rcases hp.2 with ⟨_,h⟩ | ⟨_,_,_,hv,_⟩
   ·exact h
   ·cases hv
  omega
 ·have hadr: ∃b,ad=⟨b,0,none⟩:=by
   subst hv
   rcases hp.2 with ⟨hv,_⟩ | ⟨b,_,_,hv,_⟩
   ·cases hv
   ·injection hv with hv
    injection hv with hv
    exact⟨b,hv⟩
  obtain⟨b,rfl⟩:=hadr
  subst hv
  have hne: ¬b=g:=fun e=>h.pne (by simp [Value.ownBlock,e])
  refine⟨b,c,s.d.params[m],by rw [hlen],?_,hp.frozenAt _,hne,qC.1,qC.2,?_,fun u=>?_⟩
  ·rw [hp.cellAt _ (by omega),EO,List.getElem?_map,List.getElem?_eq_getElem hlt]
   rfl
  ·unfold PA.D.put
   rw [if_neg (by omega),hm,Nat.add_sub_cancel,hgd]
  ·refine⟨h.box.far (p:=⟨b,m,none⟩) (fun e=>hne e.symm) _,?_,BF h.txt (p:=⟨b,m,none⟩) (fun e=>Bv hp h.txt (by decide) rfl e) _,h.low,fun e=>?_,h.tn⟩
   ·have:=(hp.stored m (.int .i64 u)).1
    simpa [EO,List.map_set] using this
   ·exact h.pn (by simpa using e)
theorem Nv {B g m c x nq:Nat} {s:PA.S} {d:PA.D} {vp vt vt1:Value} {w w1:World} {y n u:Int} (HP: ∀u:Int,PB (w1.setCell ⟨c,m,none⟩ (.int .i64 u)) B g ⟨s.st,s.dec,⟨d.priv,d.inter,d.parts,d.params.set m u,d.text⟩⟩ (.slice (some ⟨c,0,none⟩) (m+1) x) vt1)
  (HK:Kept [some g,vp.ownBlock,vt.ownBlock] w w1) (hp1:From w [vp.ownBlock] (Value.slice (some ⟨c,0,none⟩) (m+1) x).ownBlock) (ht1:From w [vt.ownBlock] vt1.ownBlock)
  (ED:s.d.digit n=d.put n) (EP:d.put n=⟨d.priv,d.inter,d.parts,d.params.set m (PA.up y n),d.text⟩) (hu:u=PA.up y n):
  Did w B g ⟨s.st,s.dec,s.d.digit n⟩ vp vt (.returned (.tuple #[])) ((w1.drewN nq).setCell ⟨c,m,none⟩ (.int .i64 u)):=by
 rw [ED,EP]
 subst hu
 exact⟨_,_,rfl,(HP _).drewN nq,(HK.drewN nq).setCell (p:=⟨c,m,none⟩) ((hp1.mono (by simp)):From w _ (some c)) _,hp1,ht1⟩
theorem WY (B g:Nat) (s:PA.S) (vp vt:Value) (n:Int) (w:World) (h:PB w B g s vp vt) (hk:s.d.ok) (hn:s.d.parts<=1099511627770) (n0:0<=n) (n9:n<=9):
  Calls Tryz.prog 176 #[.pointer (some ⟨g,4,none⟩),.int .i64 n] w (Did w B g ⟨s.st,s.dec,s.d.digit n⟩ vp vt):=by
 obtain⟨k0,k1,k2,k3,k4,k5,k6,k7,k8⟩:=h.box.nine
 have hfp:=PA.GY s.d
 have HFK:=hide (PA.Js hk)
 have B0:=hide (JL B g s vp vt w h hk (by omega))
 have HB:=hide h
 have ED:=hide (show s.d.digit n=s.d.first.put n from rfl)
 clear h
 by_cases h0:s.d.parts=0
 ·have E:=hide (show s.d.first=s.d.begin_ by unfold PA.D.first;rw [if_pos h0])
  have h0':((s.d.parts:Int)==0)=true:=by simp [h0]
  clear h0 hk
  go_enter Tryz.func176,Tryz.ntmps176
  go_wp2_with fail
  refine B0.out.mono ?_
  rintro e w1 ⟨vp1,vt1,rfl,hP,hK,hp1,ht1⟩
  rw [<- E.out] at hP
  clear E B0 HB
  obtain⟨m,hm⟩: ∃m,s.d.first.parts=m+1:=⟨s.d.first.parts-1,by omega⟩
  clear k0 k1 k2 k3 k4 k5 k6 k7 k8
  have HF:=hide hP.box.nine
  have HP:=hide hP
  have HK:=hide hK
  by_cases h16:m+1<=16
  ·obtain⟨c,x,y,hv,hc,hf,hne,b0,b1,hput,hst⟩:=Ur B g m _ vp1 vt1 n w1 hP HFK.out hm h16
   have HST:=hide hst
   have EP:=hide hput
   subst hv
   have j6:=hP.box.nine.2.2.2.2.2.2.1
   have j7:=hP.box.nine.2.2.2.2.2.2.2.1
   simp only [hm] at j6
   have hm16: ¬(16:Int)<(m:Int)+1:=by omega
   clear hst hP hm hK hfp HF hput
   go_wp2_with fail
   go_quiet (fail)
   go_wp2_with fail
   all_goals
    go_end0
    refine Nv HST.out HK.out hp1 ht1 ED.out EP.out ?_
    unfold PA.up
    first | rw [if_pos (by omega),if_pos (by omega)];omega | rw [if_neg (by omega),if_pos (by omega)] | (rw [if_neg (by omega),if_neg (by omega)]) | omega
  ·have EP:=hide (show s.d.first.put n=s.d.first by unfold PA.D.put;rw [if_pos (by omega)])
   have j6:=hP.box.nine.2.2.2.2.2.2.1
   simp only [hm] at j6
   have hm16:(16:Int)<(m:Int)+1:=by omega
   clear hP hm hK hfp HF
   go_wp2_with fail
   go_end0
   rw [ED.out,EP.out]
   exact⟨_,_,rfl,HP.out,HK.out,hp1,ht1⟩
 ·have E:=hide (show s.d.first=s.d by unfold PA.D.first;rw [if_neg h0])
  have h0':((s.d.parts:Int)==0)=false:=by simpa using h0
  have hP:PB w B g ⟨s.st,s.dec,s.d.first⟩ vp vt:=by rw [E.out];exact HB.out
  have hK:Kept [some g,vp.ownBlock,vt.ownBlock] w w:=Kept.refl _ _
  have hp1:From w [vp.ownBlock] vp.ownBlock:=From.mem (by simp)
  have ht1:From w [vt.ownBlock] vt.ownBlock:=From.mem (by simp)
  clear h0 hk E HB B0
  obtain⟨m,hm⟩: ∃m,s.d.first.parts=m+1:=⟨s.d.first.parts-1,by omega⟩
  clear k0 k1 k2 k3 k4 k5 k6 k7 k8 h0'
  have h0q:(((m:Int)+1)==0)=false:=by simp;omega
  have HF:=hide hP.box.nine
  have HP:=hide hP
  have HK:=hide hK
  by_cases h16:m+1<=16
  ·obtain⟨c,x,y,hv,hc,hf,hne,b0,b1,hput,hst⟩:=Ur B g m _ vp vt n w hP HFK.out hm h16
   have HST:=hide hst
   have EP:=hide hput
   subst hv
   have j6:=hP.box.nine.2.2.2.2.2.2.1
   have j7:=hP.box.nine.2.2.2.2.2.2.2.1
   simp only [hm] at j6
   have hm16: ¬(16:Int)<(m:Int)+1:=by omega
   clear hst hP hm hK hfp HF hput
   go_enter Tryz.func176,Tryz.ntmps176
   go_wp2_with fail
   go_quiet (fail)
   go_wp2_with fail
   all_goals
    go_end0
    refine Nv HST.out HK.out hp1 ht1 ED.out EP.out ?_
    unfold PA.up
    first | rw [if_pos (by omega),if_pos (by omega)];omega | rw [if_neg (by omega),if_pos (by omega)] | (rw [if_neg (by omega),if_neg (by omega)]) | omega
  ·have EP:=hide (show s.d.first.put n=s.d.first by unfold PA.D.put;rw [if_pos (by omega)])
   have j6:=hP.box.nine.2.2.2.2.2.2.1
   simp only [hm] at j6
   have hm16:(16:Int)<(m:Int)+1:=by omega
   clear hP hm hK hfp HF
   go_enter Tryz.func176,Tryz.ntmps176
   go_wp2_with fail
   go_end0
   rw [ED.out,EP.out]
   exact⟨_,_,rfl,HP.out,HK.out,hp1,ht1⟩
end Go.Proofs.YtoaabebgmdbjeaaGreatDoor
namespace Go.Proofs.YtoaabebgmdbjeaaGreatDoor
open Go.RowKit
def Eb (e:PA.Ev) (u:Value):List Value:= [.int .i64 e.kind,.int .i32 e.rune,.int .u8 e.priv,.int .u8 e.inter,.int .u8 e.final,u,.string (strOfNums e.text)]
def CF (M:List (PA.Ev × Value)):List Value:=M.flatMap fun p=>Eb p.1 p.2
def GA (w:World) (B:Nat) (M:List (PA.Ev × Value)):Prop:= ∀p∈M,w.ownsRow B 3 1 p.2 p.1.params.length (EO p.1.params)
theorem JM (M N:List (PA.Ev × Value)):CF (M++N)=CF M++CF N:=by simp [CF]
theorem JN (e:PA.Ev) (u:Value):CF [(e,u)] =Eb e u:=by simp [CF]
theorem GA.kept {w w':World} {B:Nat} {M:List (PA.Ev × Value)} {L:List (Option Nat)} (h:GA w B M) (k:Kept L w w') (hn: ∀p∈M, ∀b,p.2.ownBlock=some b->some b∉L):GA w' B M:=
 fun p hp=>BH (h p hp) k (hn p hp)
theorem GA.app {w:World} {B:Nat} {M N:List (PA.Ev × Value)} (h:GA w B M) (k:GA w B N):GA w B (M++N):=fun p hp=>by
 rcases List.mem_append.1 hp with hp | hp
 ·exact h p hp
 ·exact k p hp
theorem GA.nil (w:World) (B:Nat):GA w B [] :=fun p hp=>by cases hp
def zev:Value:=.agg #[.int .i64 0,.int .i32 0,.int .u8 0,.int .u8 0,.int .u8 0,.slice none 0 0,.string ⟨#[]⟩]
theorem Nw (r:Int): [.int .i64 1,.int .i32 r,.int .u8 0,.int .u8 0,.int .u8 0,.slice none 0 0,.string ⟨#[]⟩] =Eb (PA.pr r) (.slice none 0 0):=rfl
theorem Cq:(Tryz.prog.info? 34).map (fun i=>(i.zero,i.size,i.bytes))=some (some zev,7,56):=by kernel_rfl
theorem Cx:zev.cells.size=7:=rfl
def Hl (B g:Nat) (s':PA.S) (evs:List PA.Ev) (vp vt v:Value) (n:Nat) (xs:List Value) (Q:Value->Prop) (w:World) (e:Ending) (w':World):Prop:=
 ∃v' vp' vt' M,e=.returned v'/\M.map (·.1)=evs/\PB w' B g s' vp' vt'/\w'.ownsRow B 34 7 v' (n+M.length) (xs++CF M)/\GA w' B M/\(∀p∈M,p.2=.slice none 0 0\/(p.2=vp/\Q vp'))/\
  Kept [some g,v.ownBlock,vp.ownBlock,vt.ownBlock] w w'/\From w [v.ownBlock] v'.ownBlock/\From w [vp.ownBlock] vp'.ownBlock/\From w [vt.ownBlock] vt'.ownBlock
theorem Fx {w:World} {B g B' n:Nat} {s:PA.S} {vp vt v:Value} {xs:List Value} (h:PB w B g s vp vt) (hv:w.ownsRow B' 34 7 v n xs):some g∉ [v.ownBlock] /\(∀b,vp.ownBlock=some b->some b∉ [v.ownBlock])/\(∀b,vt.ownBlock=some b->some b∉ [v.ownBlock]):=
 ⟨by simpa using fun e=>Aa hv h.box (by decide) e.symm,fun b hb=>by simpa using fun e=>Bv h.par hv (by decide) hb e.symm,fun b hb=>by simpa using fun e=>Bv h.txt hv (by decide) hb e.symm⟩
theorem FQ {w w':World} {B g n:Nat} {s s':PA.S} {vp vt vp' vt' v:Value} {xs:List Value} {Q:Value->Prop} (hv:w.ownsRow B 34 7 v n xs) (h:PB w B g s vp vt) (hP:PB w' B g s' vp' vt') (hK:Kept [some g,vp.ownBlock,vt.ownBlock] w w') (h1:From w [vp.ownBlock] vp'.ownBlock) (h2:From w [vt.ownBlock] vt'.ownBlock):
  Hl B g s' [] vp vt v n xs Q w (.returned v) w':=by
 refine⟨v,vp',vt', [],rfl,rfl,hP,?_,GA.nil _ _,by simp,hK.more (by simp+contextual),From.mem (by simp),h1,h2⟩
 have:=BH hv hK (fun b hb=>by
  have a:=Aa hv h.box (by decide)
  have c:=Bv hv h.par (by decide) hb
  have d:=Bv hv h.txt (by decide) hb
  simp only [List.mem_cons,List.not_mem_nil,or_false,not_or,Option.some.injEq]
  exact⟨fun e=>a (by rw [hb,e]),fun e=>c e.symm,fun e=>d e.symm⟩)
 simpa [CF] using this
theorem IZ {w w0 w1:World} {B g n:Nat} {s:PA.S} {vp vt v v' u:Value} {xs ys:List Value} {e:PA.Ev} (h:PB w B g s vp vt) (hv:w.ownsRow B 34 7 v n xs) (hb:Below w.heap.size w w0) (hg:w0.grownBy w1 v.ownBlock) (hm:Moved w0 v v')
  (hown:w1.ownsRow B 34 7 v' (n+1) (xs++ys)) (hy:ys=Eb e u) {Q:Value->Prop} (hu:(u=.slice none 0 0/\e.params= [])\/(u=vp/\e.params=s.d.params/\Q vp)):
  Hl B g s [e] vp vt v n xs Q w (.returned v') w1:=by
 have k:Kept [v.ownBlock] w w1:=(Kept.of_below hb).grown hg (From.mem (by simp))
 obtain⟨a,b,c⟩:=Fx h hv
 have hP:=h.kept k a b c
 refine⟨v',vp,vt, [(e,u)],rfl,rfl,hP,?_,?_,?_,k.more (by simp+contextual),(From.moved hm).later hb.size,From.mem (by simp),From.mem (by simp)⟩
 ·rw [JN, <- hy]
  exact hown
 ·intro p hp
  simp only [List.mem_singleton] at hp
  subst hp
  rcases hu with ⟨rfl,hu⟩ | ⟨rfl,hu,_⟩
  ·rw [hu]
   exact World.ownsRow_nil _ _ _ _
  ·rw [hu]
   exact hP.par
 ·intro p hp
  simp only [List.mem_singleton] at hp
  subst hp
  rcases hu with ⟨rfl,_⟩ | ⟨rfl,_,hq⟩
  ·exact .inl rfl
  ·exact .inr ⟨rfl,hq⟩
theorem Ia (r:Int) (w:World):Calls Tryz.prog 140 #[.int .i32 r] w fun e w'=>e=.returned (.agg #[.int .i64 1,.int .i32 r,.int .u8 0,.int .u8 0,.int .u8 0,.slice none 0 0,.string ⟨#[]⟩])/\Below w.heap.size w w':=by
 go_enter Tryz.func140,Tryz.ntmps140
 go_wp2_with fail
 refine bodyPost_ret (v:=.agg #[.int .i64 1,.int .i32 r,.int .u8 0,.int .u8 0,.int .u8 0,.slice none 0 0,.string ⟨#[]⟩]) (by simp [results,Tryz.results140,go_sem]) rfl ⟨rfl,?_⟩
 exact(Below.refl _ _).alloc (Nat.le_refl _) _
theorem TF (B g:Nat) (s:PA.S) (vp vt:Value) (b:Int) (w:World) (h:PB w B g s vp vt) (hk:s.d.ok):
  Calls Tryz.prog 178 #[.pointer (some ⟨g,0,none⟩),.int .u8 b] w (Did w B g (PA.doo s 128 b).1 vp vt):=by
 obtain⟨i0,hi,hz0,hz1,hz2⟩:=info_parts K5
 obtain⟨k0,k1,k2,k3,k4,k5,k6,k7,k8⟩:=h.box.nine
 have fr:=h.box.frozen
 have hlt:=h.lt
 have hBw:B<=w.heap.size:=by have:=h.low;omega
 have ht:=h.txt
 obtain⟨A,c,hvt,_⟩:=C9 ht
 have htl:=hk.gX
 have HB:=hide h
 have HK:=hide hk
 clear h hk k0 k1 k2 k3 k4 k5 k6 k7
 by_cases h4:s.d.text.length=4096
 ·have E:=hide (show(PA.doo s 128 b).1=⟨11,s.dec,s.d⟩ by show(if _ then _ else _:PA.S)=_;rw [if_pos h4])
  rw [h4] at hvt
  rw [hvt] at k8
  have k0:=HB.out.box.cell 0
  clear h4 hvt ht
  go_enter Tryz.func178,Tryz.ntmps178
  go_wp2_with fail
  go_end0
  rw [E.out]
  refine⟨vp,vt,rfl,HB.out.store 0 _ ?_ HB.out.par HB.out.txt HB.out.pn HB.out.tn,?_,From.mem (by simp),From.mem (by simp)⟩
  ·simp [Cz]
  ·exact(Kept.refl _ w).setCell (From.mem (by simp)) _
 ·have E:=hide (show(PA.doo s 128 b).1=⟨s.st,s.dec,⟨s.d.priv,s.d.inter,s.d.parts,s.d.params,s.d.text++ [b]⟩⟩ by show(if _ then _ else _:PA.S)=_;rw [if_neg h4])
  have hne:((s.d.text.length:Int)==4096)=false:=by simp;omega
  rw [hvt] at k8
  have HV:=hide hvt
  clear h4 hvt
  generalize hn:s.d.text.length=n at*
  have HN:=hide hn
  clear hn
  go_enter Tryz.func178,Tryz.ntmps178
  go_wp2_with (at_builtin;refine BM rfl (.tmp 19) (.tmp 21) 30 rfl B 5 i0 _ 1 Tryz.underlying30 hi hz0 hz1 hz2 rfl (.slice A n c) n _ rfl (HV.out▸ht) _ _ _ rfl rfl rfl (by omega) (by omega) hBw ?_;intro v' w1 hown1 hg1 hm1;(obtain⟨A1,c1,rfl,_⟩:=C9 hown1);(have hb1:=HB.out.box.grown hg1 (fun e=>HB.out.tne (by rw [HV.out];exact e.symm)));(have j8:=hb1.nine.2.2.2.2.2.2.2.2);(have fr1:=hb1.frozen))
  go_end0
  have hv:=HV.out
  have hn:=HN.out
  have hvp:w1.ownsRow B 3 1 vp s.d.params.length (EO s.d.params):=HB.out.par.kept hg1 (by
   rw [<- hv]
   rcases hq:vp.ownBlock with _ | b
   ·exact .inl rfl
   ·exact .inr (fun e=>Bv HB.out.par HB.out.txt (by decide) hq e.symm))
  have hne1:=Aa hown1 hb1 (by decide)
  have hnp1:=Aa hvp hb1 (by decide)
  rw [E.out]
  subst hv hn
  refine⟨vp,_,rfl,⟨?_,BF hvp hnp1 _,?_,HB.out.low,HB.out.pn,fun e=>by simp at e⟩,?_,From.mem (by simp),From.moved hm1⟩
  ·have:=hb1.set 8 (.slice A1 (s.d.text.length+1) c1)
   simpa [Cz] using this
  ·have:=BF hown1 hne1 (p:=⟨g,8,none⟩) (.slice A1 (s.d.text.length+1) c1)
   simpa [u8s] using this
  ·exact((Kept.refl _ w).grown hg1 (From.mem (by simp))).setCell (From.mem (by simp)) _
end Go.Proofs.YtoaabebgmdbjeaaGreatDoor
namespace Go.Proofs.YtoaabebgmdbjeaaGreatDoor
open Go.RowKit
def prs (l:List Int):List (PA.Ev × Value):=l.map fun r=>(PA.pr r,.slice none 0 0)
theorem iC (l:List Int):(prs l).length=l.length:=by simp [prs]
theorem mH (l:List Int):(prs l).map (·.1)=l.map PA.pr:=by simp [prs,Function.comp_def]
theorem iD (w:World) (B:Nat) (l:List Int):GA w B (prs l):=fun p hp=>by
 obtain⟨r,_,rfl⟩:=List.mem_map.1 hp
 exact World.ownsRow_nil _ _ _ _
theorem iE (l:List Int): ∀p∈prs l,p.2=.slice none 0 0:=fun p hp=>by
 obtain⟨r,_,rfl⟩:=List.mem_map.1 hp
 rfl
theorem ZP (l:List Int) (r:Int):prs (l++ [r])=prs l++ [(PA.pr r,.slice none 0 0)] :=by simp [prs]
theorem QZ (Q:Value->Prop) (B g:Nat) (s:PA.S) (vp vt v:Value) (n:Nat) (xs:List Value) (b:Int) (w:World) (h:PB w B g s vp vt) (hd:s.dec.ok) (hv:w.ownsRow B 34 7 v n xs) (hn:n<=274877906944) (h0:0<=b) (h1:b<256):
  Calls Tryz.prog 175 #[.pointer (some ⟨g,0,none⟩),v,.int .u8 b] w (Hl B g ⟨s.st,(U.it s.dec b).1,s.d⟩ ((U.it s.dec b).2.map PA.pr) vp vt v n xs Q w):=by
 obtain⟨i0,hi,hz0,hz1,hz2⟩:=info_parts Cq
 obtain⟨k0,k1,k2,k3,k4,k5,k6,k7,k8⟩:=h.box.nine
 have hlt:=h.lt
 have hBw:B<=w.heap.size:=by have:=h.low;omega
 have hil:=U.RQ s.dec b
 have CP:=ZL s.dec b
 have CP:=hide (fun w'=>CP w' h0 h1 hd)
 have HB:=hide h
 have HV:=hide hv
 generalize U.it s.dec b=r at CP hil⊢
 obtain⟨⟨q0,q1,q2⟩,l⟩:=r
 simp only [] at hil
 clear h hv hd k0 k4 k5 k6 k7 k8
 go_enter Tryz.func175,Tryz.ntmps175
 go_wp2_with fail
 refine(CP.out _).mono ?_
 rintro e w1 ⟨vm,he,hm,bb⟩
 rw [show(U.St.mk q0 q1 q2).val=.agg #[.int .i64 q0,.int .i64 q1,.int .i64 q2] from rfl] at he
 subst he
 have hP1:=HB.out.below bb
 obtain⟨j0,j1,j2,j3,j4,j5,j6,j7,j8⟩:=hP1.box.nine
 have fr1:=hP1.box.frozen
 have hm':=BF (BF (BF hm (Aa hm hP1.box (by decide)) (p:=⟨g,1,none⟩) (.int .i64 q0)) (Aa hm hP1.box (by decide)) (p:=⟨g,2,none⟩) (.int .i64 q1)) (Aa hm hP1.box (by decide)) (p:=⟨g,3,none⟩) (.int .i64 q2)
 obtain⟨A,c,rfl,hlc,hcm,_⟩:=C9 hm
 have hv1:=BH HV.out (Kept.of_below (L:= []) bb) (by simp)
 have hv2:=BF (BF (BF hv1 (Aa hv1 hP1.box (by decide)) (p:=⟨g,1,none⟩) (.int .i64 q0)) (Aa hv1 hP1.box (by decide)) (p:=⟨g,2,none⟩) (.int .i64 q1)) (Aa hv1 hP1.box (by decide)) (p:=⟨g,3,none⟩) (.int .i64 q2)
 have hp2:=BF (BF (BF hP1.par hP1.pne (p:=⟨g,1,none⟩) (.int .i64 q0)) hP1.pne (p:=⟨g,2,none⟩) (.int .i64 q1)) hP1.pne (p:=⟨g,3,none⟩) (.int .i64 q2)
 have ht2:=BF (BF (BF hP1.txt hP1.tne (p:=⟨g,1,none⟩) (.int .i64 q0)) hP1.tne (p:=⟨g,2,none⟩) (.int .i64 q1)) hP1.tne (p:=⟨g,3,none⟩) (.int .i64 q2)
 have hP2:PB (((w1.setCell ⟨g,1,none⟩ (.int .i64 q0)).setCell ⟨g,2,none⟩ (.int .i64 q1)).setCell ⟨g,3,none⟩ (.int .i64 q2)) B g ⟨s.st,⟨q0,q1,q2⟩,s.d⟩ vp vt:=⟨by
  have:=((hP1.box.set 1 (.int .i64 q0)).set 2 (.int .i64 q1)).set 3 (.int .i64 q2)
  simpa [Cz] using this,hp2,ht2,hP1.low,hP1.pn,hP1.tn⟩
 have hK2:Kept [some g] w (((w1.setCell ⟨g,1,none⟩ (.int .i64 q0)).setCell ⟨g,2,none⟩ (.int .i64 q1)).setCell ⟨g,3,none⟩ (.int .i64 q2)):=
  (((Kept.of_below bb).setCell (p:=⟨g,1,none⟩) (From.mem (by simp)) _).setCell (p:=⟨g,2,none⟩) (From.mem (by simp)) _).setCell (p:=⟨g,3,none⟩) (From.mem (by simp)) _
 have HP2:=hide hP2
 have HK2:=hide hK2
 have HM:=hide hm'
 have HV2:=hide hv2
 have hsz:w.heap.size<=w1.heap.size:=bb.size
 clear hP2 hK2 hm' hm hv1 hv2 hp2 ht2 bb HV CP
 go_wp2_with fail
 go_loopw [1,24] (fun o i wr=> ∃k:Nat,k<=l.length/\i=.int .i64 k/\wr.ownsRow B 34 7 o (n+k) (xs++CF (prs (l.take k)))/\PB wr B g ⟨s.st,⟨q0,q1,q2⟩,s.d⟩ vp vt/\wr.ownsRow w.heap.size 21 1 (.slice A l.length c) l.length (DV l)/\Kept [some g,v.ownBlock] w wr/\From w [v.ownBlock] o.ownBlock)
  (fun _ i _=>l.length-(intOf i).toNat)
 case atStart=>exact⟨0,Nat.zero_le _,rfl,by simpa [CF,prs] using HV2.out,HP2.out,HM.out,HK2.out.more (by simp),From.mem (by simp)⟩
 case round=>
  clear j0 j1 j2 j3 j4 j5 j6 j7 j8 fr1 k1 k2 k3 hP1
  obtain⟨k,hk,rfl,hown,hP,hmd,hK,hF⟩:=hrel
  have HPr:=hide hP
  have HMr:=hide hmd
  have HKr:=hide hK
  have hsr:=hK.size
  by_cases hlt:k<l.length
  ·obtain⟨ad,u,rfl,hadb,hu,hc⟩:=(Seen.Bu hmd).at_ hlt
   rw [DV,List.getElem?_map] at hu
   obtain⟨y,hy,rfl⟩:=Option.map_eq_some_iff.1 hu
   have E:=hide (show prs (l.take (k+1))=prs (l.take k)++ [(PA.pr y,.slice none 0 0)] by rw [List.take_add_one,hy];exact ZP _ _)
   have PC:=hide (Ia y)
   have HO:=hide hown
   clear hu hy hown hP hmd hK
   go_wp2_with fail
   refine(PC.out _).mono ?_
   rintro e w2 ⟨rfl,bb⟩
   have hown2:=BH HO.out (Kept.of_below (L:= []) bb) (by simp)
   have hsz2:=bb.size
   go_wp2_with (at_builtin;refine CX rfl (.tmp 28) (.tmp 31) 56 rfl B 34 i0 _ 7 56 Tryz.underlying56 hi hz0 hz1 hz2 Cx (by omega) u1 (n+k) _ rfl hown2 _ _ _ rfl rfl rfl (by intro u hu;simp at hu;rcases hu with rfl | rfl | rfl | rfl | rfl<;>rfl) (by omega) (by omega) (by omega) ?_;intro v' w3 hown3 hg3 hm3)
   have hK2:Kept [u1.ownBlock] wr w3:=(Kept.of_below bb).grown hg3 (From.mem (by simp))
   obtain⟨a,b',d⟩:=Fx HPr.out HO.out
   have hmd3:=BH HMr.out hK2 (fun x hx=>by simpa using fun e=>Bv HMr.out HO.out (by decide) hx e.symm)
   have hF3:=((From.moved hm3).later hsz2).Gc hF hsr
   have hK3:Kept [some g,v.ownBlock] w w3:=HKr.out.trans hK2 (by simpa using hF.mono (by simp))
   have hP3:=HPr.out.kept hK2 a b' d
   have mI:w3.ownsRow B 34 7 v' (n+(k+1)) (xs++CF (prs (l.take (k+1)))):=by
    rw [E.out,JM,JN]
    rw [List.append_assoc] at hown3
    exact hown3
   go_roundw
   case rel=>exact⟨k+1,by omega,by go_num,mI,hP3,hmd3,hK3,hF3⟩
   case measure=>simp [intOf];omega
  ·obtain rfl:k=l.length:=by omega
   rw [List.take_of_length_le (Nat.le_refl _)] at hown
   go_wp2_with fail
   go_ret
   have hl:=iC l
   exact⟨_,vp,vt,prs l,rfl,mH l,hP,by rw [hl];exact hown,iD _ _ _,fun p hp=>.inl (iE l p hp),hK.more (by simp+contextual),hF,From.mem (by simp),From.mem (by simp)⟩
end Go.Proofs.YtoaabebgmdbjeaaGreatDoor
namespace Go.Proofs.YtoaabebgmdbjeaaGreatDoor
open Go.RowKit
def Fy (a:Int) (vp x:Value):Prop:=x=vp/\a=160
theorem WZ {w:World} {B:Nat} {vt:Value} {l:List Int} (h:w.ownsRow B 5 1 vt l.length (u8s l)) (w':World) (hw:Below w.heap.size w w'):(convert 30 9 vt).run Tryz.prog w'=.ok (.string (strOfNums l)) w':=by
 have h':=BH h (Kept.of_below (L:= []) hw) (by simp)
 rcases h'.2 with ⟨rfl,h0⟩ | ⟨g,cap,cur,hv,_,_⟩
 ·have:l= [] :=List.eq_nil_of_length_eq_zero h0
  subst this
  exact run_convert_bytes_nil w' _ _ Tryz.underlying30 Tryz.underlying5 _ _ _ Tryz.underlying9
 ·subst hv
  refine run_convert_bytes_arg w' _ _ Tryz.underlying30 Tryz.underlying5 g 0 _ cap l rfl (fun i hi=>?_) _ Tryz.underlying9
  rw [Nat.zero_add,h'.cellAt i (by omega),u8s,List.getElem?_map,List.getElem?_eq_getElem hi,List.getD_eq_getElem?_getD,List.getElem?_eq_getElem hi]
  rfl
set_option maxRecDepth 100000 in
theorem qD (B g:Nat) (s:PA.S) (vp vt v:Value) (n:Nat) (xs:List Value) (b:Int) (w:World) (h:PB w B g s vp vt) (hk:s.ok) (hv:w.ownsRow B 34 7 v n xs) (hn:n<=274877906944) (hpp:s.d.parts<=1099511627000) (h0:0<=b) (h1:b<256):
  Calls Tryz.prog 142 #[.pointer (some ⟨g,0,none⟩),v,.int .u8 16,.int .u8 b] w (Hl B g (PA.doo s 16 b).1 (PA.doo s 16 b).2 vp vt v n xs (Fy 16 vp) w):=by
 obtain⟨i0,hi,hz0,hz1,hz2⟩:=info_parts Cq
 obtain⟨k0,k1,k2,k3,k4,k5,k6,k7,k8⟩:=h.box.nine
 have fr:=h.box.frozen
 have hlt:=h.lt
 have hBw:B<=w.heap.size:=by have:=h.low;omega
 have HB:=hide h
 have HV:=hide hv
 have HK:=hide hk
 have wb:IntKind.i32.wrap b=b:=IntWalk.i32_in _ (by omega)
 have PC:=hide (Ia b)
 clear h hv hk k0 k1 k2 k3 k4 k5 k6 k7 k8 fr
 go_enter Tryz.func142,Tryz.ntmps142
 go_wp2_with fail
 refine(PC.out _).mono ?_
 rintro e w2 ⟨rfl,bb⟩
 have hown2:=BH HV.out (Kept.of_below (L:= []) bb) (by simp)
 have hsz2:=bb.size
 go_wp2_with (at_builtin;refine CX rfl (.tmp 12) (.tmp 16) 56 rfl B 34 i0 _ 7 56 Tryz.underlying56 hi hz0 hz1 hz2 Cx (by omega) v n _ rfl hown2 _ _ _ rfl rfl rfl (by intro u hu;simp at hu;(repeat' (first | (rcases hu with rfl | hu) | subst hu))<;>rfl) (by omega) (by omega) (by omega) ?_;intro v' w3 hown3 hg3 hm3)
 go_ret
 exact IZ HB.out HV.out bb hg3 hm3 hown3 (Nw b) (.inl ⟨rfl,rfl⟩)
set_option maxRecDepth 100000 in
theorem qE (B g:Nat) (s:PA.S) (vp vt v:Value) (n:Nat) (xs:List Value) (b:Int) (w:World) (h:PB w B g s vp vt) (hk:s.ok) (hv:w.ownsRow B 34 7 v n xs) (hn:n<=274877906944) (hpp:s.d.parts<=1099511627000) (h0:0<=b) (h1:b<256):
  Calls Tryz.prog 142 #[.pointer (some ⟨g,0,none⟩),v,.int .u8 32,.int .u8 b] w (Hl B g (PA.doo s 32 b).1 (PA.doo s 32 b).2 vp vt v n xs (Fy 32 vp) w):=by
 obtain⟨i0,hi,hz0,hz1,hz2⟩:=info_parts Cq
 obtain⟨k0,k1,k2,k3,k4,k5,k6,k7,k8⟩:=h.box.nine
 have fr:=h.box.frozen
 have hlt:=h.lt
 have hBw:B<=w.heap.size:=by have:=h.low;omega
 have HB:=hide h
 have HV:=hide hv
 have HK:=hide hk
 clear h hv hk k0 k1 k2 k3 k4 k5 k6 k7 k8 fr
 go_enter Tryz.func142,Tryz.ntmps142
 go_wp2_with (at_builtin;refine CX rfl (.tmp 20) (.tmp 23) 56 rfl B 34 i0 _ 7 56 Tryz.underlying56 hi hz0 hz1 hz2 Cx (by omega) v n _ rfl HV.out _ _ _ rfl rfl rfl (by intro u hu;simp at hu;(repeat' (first | (rcases hu with rfl | hu) | subst hu))<;>rfl) (by omega) (by omega) (by omega) ?_;intro v' w3 hown3 hg3 hm3)
 go_ret
 exact IZ HB.out HV.out (Below.refl _ _) hg3 hm3 hown3 (e:=⟨2,0,0,0,b, [], []⟩) (u:=.slice none 0 0) rfl (.inl ⟨rfl,rfl⟩)
set_option maxRecDepth 100000 in
theorem qF (B g:Nat) (s:PA.S) (vp vt v:Value) (n:Nat) (xs:List Value) (b:Int) (w:World) (h:PB w B g s vp vt) (hk:s.ok) (hv:w.ownsRow B 34 7 v n xs) (hn:n<=274877906944) (hpp:s.d.parts<=1099511627000) (h0:0<=b) (h1:b<256):
  Calls Tryz.prog 142 #[.pointer (some ⟨g,0,none⟩),v,.int .u8 48,.int .u8 b] w (Hl B g (PA.doo s 48 b).1 (PA.doo s 48 b).2 vp vt v n xs (Fy 48 vp) w):=by
 obtain⟨i0,hi,hz0,hz1,hz2⟩:=info_parts Cq
 obtain⟨k0,k1,k2,k3,k4,k5,k6,k7,k8⟩:=h.box.nine
 have fr:=h.box.frozen
 have hlt:=h.lt
 have hBw:B<=w.heap.size:=by have:=h.low;omega
 have HB:=hide h
 have HV:=hide hv
 have HK:=hide hk
 have DC:=hide (QZ (Fy 48 vp) B g s vp vt v n xs b w h hk.dec hv hn h0 h1)
 clear h hv hk k0 k1 k2 k3 k4 k5 k6 k7 k8 fr
 go_enter Tryz.func142,Tryz.ntmps142
 go_wp2_with fail
 refine DC.out.mono ?_
 rintro e w2 ⟨v',vp',vt',M,rfl,r⟩
 go_wp2_with fail
 go_ret
 exact⟨v',vp',vt',M,rfl,r⟩
set_option maxRecDepth 100000 in
theorem qG (B g:Nat) (s:PA.S) (vp vt v:Value) (n:Nat) (xs:List Value) (b:Int) (w:World) (h:PB w B g s vp vt) (hk:s.ok) (hv:w.ownsRow B 34 7 v n xs) (hn:n<=274877906944) (hpp:s.d.parts<=1099511627000) (h0:0<=b) (h1:b<256):
  Calls Tryz.prog 142 #[.pointer (some ⟨g,0,none⟩),v,.int .u8 64,.int .u8 b] w (Hl B g (PA.doo s 64 b).1 (PA.doo s 64 b).2 vp vt v n xs (Fy 64 vp) w):=by
 obtain⟨i0,hi,hz0,hz1,hz2⟩:=info_parts Cq
 obtain⟨k0,k1,k2,k3,k4,k5,k6,k7,k8⟩:=h.box.nine
 have fr:=h.box.frozen
 have hlt:=h.lt
 have hBw:B<=w.heap.size:=by have:=h.low;omega
 have HB:=hide h
 have HV:=hide hv
 have HK:=hide hk
 have P2:=hide (h.store (s':=⟨s.st,s.dec,⟨b,s.d.inter,s.d.parts,s.d.params,s.d.text⟩⟩) 4 (.int .u8 b) (by simp [Cz]) h.par h.txt h.pn h.tn)
 clear h hv hk
 go_enter Tryz.func142,Tryz.ntmps142
 go_wp2_with fail
 go_ret
 exact FQ HV.out HB.out P2.out ((Kept.refl _ w).setCell (From.mem (by simp)) _) (From.mem (by simp)) (From.mem (by simp))
set_option maxRecDepth 100000 in
theorem mJ (B g:Nat) (s:PA.S) (vp vt v:Value) (n:Nat) (xs:List Value) (b:Int) (w:World) (h:PB w B g s vp vt) (hk:s.ok) (hv:w.ownsRow B 34 7 v n xs) (hn:n<=274877906944) (hpp:s.d.parts<=1099511627000) (h0:0<=b) (h1:b<256):
  Calls Tryz.prog 142 #[.pointer (some ⟨g,0,none⟩),v,.int .u8 112,.int .u8 b] w (Hl B g (PA.doo s 112 b).1 (PA.doo s 112 b).2 vp vt v n xs (Fy 112 vp) w):=by
 obtain⟨i0,hi,hz0,hz1,hz2⟩:=info_parts Cq
 obtain⟨k0,k1,k2,k3,k4,k5,k6,k7,k8⟩:=h.box.nine
 have fr:=h.box.frozen
 have hlt:=h.lt
 have hBw:B<=w.heap.size:=by have:=h.low;omega
 have HB:=hide h
 have HV:=hide hv
 have HK:=hide hk
 have P2:=hide (h.store (s':=⟨s.st,s.dec,⟨s.d.priv,b,s.d.parts,s.d.params,s.d.text⟩⟩) 5 (.int .u8 b) (by simp [Cz]) h.par h.txt h.pn h.tn)
 clear h hv hk
 go_enter Tryz.func142,Tryz.ntmps142
 go_wp2_with fail
 go_ret
 exact FQ HV.out HB.out P2.out ((Kept.refl _ w).setCell (From.mem (by simp)) _) (From.mem (by simp)) (From.mem (by simp))
set_option maxRecDepth 100000 in
theorem qH (B g:Nat) (s:PA.S) (vp vt v:Value) (n:Nat) (xs:List Value) (b:Int) (w:World) (h:PB w B g s vp vt) (hk:s.ok) (hv:w.ownsRow B 34 7 v n xs) (hn:n<=274877906944) (hpp:s.d.parts<=1099511627000) (h0:0<=b) (h1:b<256) (hb:48<=b/\b<=57):
  Calls Tryz.prog 142 #[.pointer (some ⟨g,0,none⟩),v,.int .u8 80,.int .u8 b] w (Hl B g (PA.doo s 80 b).1 (PA.doo s 80 b).2 vp vt v n xs (Fy 80 vp) w):=by
 obtain⟨i0,hi,hz0,hz1,hz2⟩:=info_parts Cq
 obtain⟨k0,k1,k2,k3,k4,k5,k6,k7,k8⟩:=h.box.nine
 have fr:=h.box.frozen
 have hlt:=h.lt
 have hBw:B<=w.heap.size:=by have:=h.low;omega
 have HB:=hide h
 have HV:=hide hv
 have HK:=hide hk
 have DC:=hide (WY B g s vp vt (b-48) w h hk.d (by omega) (by omega) (by omega))
 have wb:IntKind.u8.wrap (b-48)=b-48:=IntWalk.u8_in _ (by omega)
 clear h hv hk k0 k1 k2 k3 k4 k5 k6 k7 k8 fr
 go_enter Tryz.func142,Tryz.ntmps142
 go_wp2_with fail
 refine DC.out.mono ?_
 rintro e w2 ⟨vp',vt',rfl,hP,hK,f1,f2⟩
 go_wp2_with fail
 go_ret
 exact FQ HV.out HB.out hP hK f1 f2
set_option maxRecDepth 100000 in
theorem qI (B g:Nat) (s:PA.S) (vp vt v:Value) (n:Nat) (xs:List Value) (b:Int) (w:World) (h:PB w B g s vp vt) (hk:s.ok) (hv:w.ownsRow B 34 7 v n xs) (hn:n<=274877906944) (hpp:s.d.parts<=1099511627000) (h0:0<=b) (h1:b<256):
  Calls Tryz.prog 142 #[.pointer (some ⟨g,0,none⟩),v,.int .u8 96,.int .u8 b] w (Hl B g (PA.doo s 96 b).1 (PA.doo s 96 b).2 vp vt v n xs (Fy 96 vp) w):=by
 obtain⟨i0,hi,hz0,hz1,hz2⟩:=info_parts Cq
 obtain⟨k0,k1,k2,k3,k4,k5,k6,k7,k8⟩:=h.box.nine
 have fr:=h.box.frozen
 have hlt:=h.lt
 have hBw:B<=w.heap.size:=by have:=h.low;omega
 have HB:=hide h
 have HV:=hide hv
 have HK:=hide hk
 have DC:=hide (ZO B g s vp vt w h hk.d (by omega))
 clear h hv hk k0 k1 k2 k3 k4 k5 k6 k7 k8 fr
 go_enter Tryz.func142,Tryz.ntmps142
 go_wp2_with fail
 refine DC.out.mono ?_
 rintro e w2 ⟨vp',vt',rfl,hP,hK,f1,f2⟩
 go_wp2_with fail
 go_ret
 exact FQ HV.out HB.out hP hK f1 f2
set_option maxRecDepth 100000 in
theorem mK (B g:Nat) (s:PA.S) (vp vt v:Value) (n:Nat) (xs:List Value) (b:Int) (w:World) (h:PB w B g s vp vt) (hk:s.ok) (hv:w.ownsRow B 34 7 v n xs) (hn:n<=274877906944) (hpp:s.d.parts<=1099511627000) (h0:0<=b) (h1:b<256):
  Calls Tryz.prog 142 #[.pointer (some ⟨g,0,none⟩),v,.int .u8 128,.int .u8 b] w (Hl B g (PA.doo s 128 b).1 (PA.doo s 128 b).2 vp vt v n xs (Fy 128 vp) w):=by
 obtain⟨i0,hi,hz0,hz1,hz2⟩:=info_parts Cq
 obtain⟨k0,k1,k2,k3,k4,k5,k6,k7,k8⟩:=h.box.nine
 have fr:=h.box.frozen
 have hlt:=h.lt
 have hBw:B<=w.heap.size:=by have:=h.low;omega
 have HB:=hide h
 have HV:=hide hv
 have HK:=hide hk
 have DC:=hide (TF B g s vp vt b w h hk.d)
 clear h hv hk k0 k1 k2 k3 k4 k5 k6 k7 k8 fr
 go_enter Tryz.func142,Tryz.ntmps142
 go_wp2_with fail
 refine DC.out.mono ?_
 rintro e w2 ⟨vp',vt',rfl,hP,hK,f1,f2⟩
 go_wp2_with fail
 go_ret
 exact FQ HV.out HB.out hP hK f1 f2
set_option maxRecDepth 100000 in
theorem mM (B g:Nat) (s:PA.S) (vp vt v:Value) (n:Nat) (xs:List Value) (b:Int) (w:World) (h:PB w B g s vp vt) (hk:s.ok) (hv:w.ownsRow B 34 7 v n xs) (hn:n<=274877906944) (hpp:s.d.parts<=1099511627000) (h0:0<=b) (h1:b<256):
  Calls Tryz.prog 142 #[.pointer (some ⟨g,0,none⟩),v,.int .u8 144,.int .u8 b] w (Hl B g (PA.doo s 144 b).1 (PA.doo s 144 b).2 vp vt v n xs (Fy 144 vp) w):=by
 obtain⟨i0,hi,hz0,hz1,hz2⟩:=info_parts Cq
 obtain⟨k0,k1,k2,k3,k4,k5,k6,k7,k8⟩:=h.box.nine
 have fr:=h.box.frozen
 have hlt:=h.lt
 have hBw:B<=w.heap.size:=by have:=h.low;omega
 have HB:=hide h
 have HV:=hide hv
 have HK:=hide hk
 clear h hv hk
 go_enter Tryz.func142,Tryz.ntmps142
 go_wp2_with (at_builtin;refine CX rfl (.tmp 67) (.tmp 75) 56 rfl B 34 i0 _ 7 56 Tryz.underlying56 hi hz0 hz1 hz2 Cx (by omega) v n _ rfl HV.out _ _ _ rfl rfl rfl (by intro u hu;simp at hu;(repeat' (first | (rcases hu with rfl | hu) | subst hu))<;>rfl) (by omega) (by omega) (by omega) ?_;intro v' w3 hown3 hg3 hm3)
 go_ret
 exact IZ HB.out HV.out (Below.refl _ _) hg3 hm3 hown3 (e:=⟨3,0,0,s.d.inter,b, [], []⟩) (u:=.slice none 0 0) rfl (.inl ⟨rfl,rfl⟩)
set_option maxRecDepth 100000 in
theorem mO (B g:Nat) (s:PA.S) (vp vt v:Value) (n:Nat) (xs:List Value) (b:Int) (w:World) (h:PB w B g s vp vt) (hk:s.ok) (hv:w.ownsRow B 34 7 v n xs) (hn:n<=274877906944) (hpp:s.d.parts<=1099511627000) (h0:0<=b) (h1:b<256):
  Calls Tryz.prog 142 #[.pointer (some ⟨g,0,none⟩),v,.int .u8 176,.int .u8 b] w (Hl B g (PA.doo s 176 b).1 (PA.doo s 176 b).2 vp vt v n xs (Fy 176 vp) w):=by
 obtain⟨i0,hi,hz0,hz1,hz2⟩:=info_parts Cq
 obtain⟨k0,k1,k2,k3,k4,k5,k6,k7,k8⟩:=h.box.nine
 have fr:=h.box.frozen
 have hlt:=h.lt
 have hBw:B<=w.heap.size:=by have:=h.low;omega
 have HB:=hide h
 have HV:=hide hv
 have HK:=hide hk
 have CT:=WZ h.txt w (Below.refl _ _)
 clear h hv hk
 go_enter Tryz.func142,Tryz.ntmps142
 go_wp2_with (at_builtin;refine CX rfl (.tmp 101) (.tmp 109) 56 rfl B 34 i0 _ 7 56 Tryz.underlying56 hi hz0 hz1 hz2 Cx (by omega) v n _ rfl HV.out _ _ _ rfl rfl rfl (by intro u hu;simp at hu;(repeat' (first | (rcases hu with rfl | hu) | subst hu))<;>rfl) (by omega) (by omega) (by omega) ?_;intro v' w3 hown3 hg3 hm3)
 go_ret
 exact IZ HB.out HV.out (Below.refl _ _) hg3 hm3 hown3 (e:=⟨5,0,0,0,0, [],s.d.text⟩) (u:=.slice none 0 0) rfl (.inl ⟨rfl,rfl⟩)
set_option maxRecDepth 100000 in
theorem do_0 (B g:Nat) (s:PA.S) (vp vt v:Value) (n:Nat) (xs:List Value) (b:Int) (w:World) (h:PB w B g s vp vt) (hk:s.ok) (hv:w.ownsRow B 34 7 v n xs) (hn:n<=274877906944) (hpp:s.d.parts<=1099511627000) (h0:0<=b) (h1:b<256):
  Calls Tryz.prog 142 #[.pointer (some ⟨g,0,none⟩),v,.int .u8 0,.int .u8 b] w (Hl B g (PA.doo s 0 b).1 (PA.doo s 0 b).2 vp vt v n xs (Fy 0 vp) w):=by
 obtain⟨i0,hi,hz0,hz1,hz2⟩:=info_parts Cq
 obtain⟨k0,k1,k2,k3,k4,k5,k6,k7,k8⟩:=h.box.nine
 have fr:=h.box.frozen
 have hlt:=h.lt
 have hBw:B<=w.heap.size:=by have:=h.low;omega
 have HB:=hide h
 have HV:=hide hv
 have HK:=hide hk
 clear h hv hk
 go_enter Tryz.func142,Tryz.ntmps142
 go_wp2_with fail
 go_ret
 exact FQ HV.out HB.out HB.out (Kept.refl _ w) (From.mem (by simp)) (From.mem (by simp))
end Go.Proofs.YtoaabebgmdbjeaaGreatDoor
namespace Go.Proofs.YtoaabebgmdbjeaaGreatDoor
open Go.RowKit
set_option maxRecDepth 100000 in
theorem mP (B g:Nat) (s:PA.S) (vp vt v:Value) (n:Nat) (xs:List Value) (b:Int) (w:World) (h:PB w B g s vp vt) (hk:s.ok) (hv:w.ownsRow B 34 7 v n xs) (hn:n<=274877906944) (hpp:s.d.parts<=1099511627000) (h0:0<=b) (h1:b<256):
  Calls Tryz.prog 142 #[.pointer (some ⟨g,0,none⟩),v,.int .u8 160,.int .u8 b] w (Hl B g (PA.doo s 160 b).1 (PA.doo s 160 b).2 vp vt v n xs (Fy 160 vp) w):=by
 obtain⟨i0,hi,hz0,hz1,hz2⟩:=info_parts Cq
 obtain⟨k0,k1,k2,k3,k4,k5,k6,k7,k8⟩:=h.box.nine
 have fr:=h.box.frozen
 have hlt:=h.lt
 have hBw:B<=w.heap.size:=by have:=h.low;omega
 have HB:=hide h
 have HV:=hide hv
 have HK:=hide hk
 obtain⟨Ap,cp,hvp,_⟩:=C9 h.par
 have HVP:=hide hvp
 rw [hvp] at k7
 have ag:v.ownBlock≠some g:=Aa hv h.box (by decide)
 clear h hk hvp k0 k1 k2 k3 k6 k8 fr
 go_enter Tryz.func142,Tryz.ntmps142
 go_wp2_with fail
 go_region_held3 (fun w'=>w'.cell? ⟨g,4,none⟩=some (.int .u8 s.d.priv)/\w'.cell? ⟨g,5,none⟩=some (.int .u8 s.d.inter)/\w'.cell? ⟨g,7,none⟩=some (.slice Ap s.d.params.length cp))
  (first
   | go_keep
   | (go_split_ands
      refine⟨?_,?_,?_⟩
      ·(rw [hgrow.cell_far _ (by simp;omega) (Ne.symm ag)];assumption)
      ·(rw [hgrow.cell_far _ (by simp;omega) (Ne.symm ag)];assumption)
      ·(rw [hgrow.cell_far _ (by simp;omega) (Ne.symm ag)];assumption)))
  ((refine step_append_lies _ (by rfl) _ _ _ (by rfl) B 34 i0 _ 7 56 Tryz.underlying56 hi hz0 hz1 hz2 Cx (by omega) v n xs (by rfl) ((hv.alloc _).drew) ⟨w.heap.size,0,none⟩ 1 1 [.int .i64 4,.int .i32 0,.int .u8 s.d.priv,.int .u8 s.d.inter,.int .u8 b,.slice Ap s.d.params.length cp,.string ⟨#[]⟩] (by rfl) (by rfl) (World.news_of_block (cs:= #[.int .i64 4,.int .i32 0,.int .u8 s.d.priv,.int .u8 s.d.inter,.int .u8 b,.slice Ap s.d.params.length cp,.string ⟨#[]⟩]) (t:=34) (fr:=(0,0)) (heap_alloc_new w _)) (by simp [Value.oneCell']) (by omega) (by simp only [maxLen];omega) (by omega) (by simp;omega) (w.heap.size+1) (by simp) ?_;intro gg cap w1 hown1 hgrow hat hlt1))
 go_wp2_with fail
 go_ret
 have hm:Moved w v (.slice (some ⟨gg,0,none⟩) (n+1) cap):=by
  rcases hat with hat | hat
  ·exact .inl hat.symm
  ·exact .inr ⟨gg,rfl,by omega⟩
 rw [<- HVP.out] at hown1
 exact IZ HB.out HV.out (((Below.refl _ _).alloc (Nat.le_refl _) _).drew) hgrow (by
  rcases hat with hat | hat
  ·exact .inl hat.symm
  ·exact .inr ⟨gg,rfl,by simp;omega⟩) hown1 (e:=⟨4,0,s.d.priv,s.d.inter,b,s.d.params, []⟩) (u:=vp) rfl (.inr ⟨rfl,rfl,⟨rfl,rfl⟩⟩)
set_option maxRecDepth 100000 in
theorem mQ (B g:Nat) (s:PA.S) (vp vt v:Value) (n:Nat) (xs:List Value) (a b:Int) (w:World) (h:PB w B g s vp vt) (hk:s.ok) (hv:w.ownsRow B 34 7 v n xs) (hn:n<=274877906944) (hpp:s.d.parts<=1099511627000) (h0:0<=b) (h1:b<256) (ha:PA.I5 a) (hb:a=80->48<=b/\b<=57):
  Calls Tryz.prog 142 #[.pointer (some ⟨g,0,none⟩),v,.int .u8 a,.int .u8 b] w (Hl B g (PA.doo s a b).1 (PA.doo s a b).2 vp vt v n xs (Fy a vp) w):=by
 unfold PA.I5 at ha
 obtain rfl | rfl | rfl | rfl | rfl | rfl | rfl | rfl | rfl | rfl | rfl | rfl:=ha
 ·exact do_0 B g s vp vt v n xs b w h hk hv hn hpp h0 h1
 ·exact qD B g s vp vt v n xs b w h hk hv hn hpp h0 h1
 ·exact qE B g s vp vt v n xs b w h hk hv hn hpp h0 h1
 ·exact qF B g s vp vt v n xs b w h hk hv hn hpp h0 h1
 ·exact qG B g s vp vt v n xs b w h hk hv hn hpp h0 h1
 ·exact qH B g s vp vt v n xs b w h hk hv hn hpp h0 h1 (hb rfl)
 ·exact qI B g s vp vt v n xs b w h hk hv hn hpp h0 h1
 ·exact mJ B g s vp vt v n xs b w h hk hv hn hpp h0 h1
 ·exact mK B g s vp vt v n xs b w h hk hv hn hpp h0 h1
 ·exact mM B g s vp vt v n xs b w h hk hv hn hpp h0 h1
 ·exact mP B g s vp vt v n xs b w h hk hv hn hpp h0 h1
 ·exact mO B g s vp vt v n xs b w h hk hv hn hpp h0 h1
end Go.Proofs.YtoaabebgmdbjeaaGreatDoor
namespace Go.Proofs.YtoaabebgmdbjeaaGreatDoor
open Go.RowKit
theorem F9.kept {w w':World} {L:List (Option Nat)} (h:F9 w) (k:Kept L w w') (hL: ∀b,some b∈L->6<=b):F9 w':=by
 have hlt:=h.lt
 obtain⟨⟨t,h⟩,⟨u,g⟩⟩:=h
 exact⟨⟨t,(k.block _ (by omega) (fun e=>by have:=hL _ e;omega)).trans h⟩,⟨u,(k.block _ (by omega) (fun e=>by have:=hL _ e;omega)).trans g⟩⟩
def qJ (B g:Nat) (s1:PA.S) (ev:List PA.Ev) (vp vt v:Value) (n:Nat) (xs:List Value) (w:World) (o:Value) (wr:World):Prop:=
 ∃M,M.map (·.1)=ev/\PB wr B g s1 vp vt/\wr.ownsRow B 34 7 o (n+M.length) (xs++CF M)/\(∀p∈M,p.2=.slice none 0 0)/\GA wr B M/\Kept [some g,v.ownBlock] w wr/\From w [v.ownBlock] o.ownBlock
def qK (B g:Nat) (s:PA.S) (d:PA.D) (a nx:Int) (vp vt:Value) (w:World) (u7 u8:Value) (wr:World):Prop:=
 u7=.int .u8 a/\u8=.int .u8 nx/\ ∃vp' vt',PB wr B g ⟨s.st,s.dec,d⟩ vp' vt'/\Kept [some g] w wr/\(vp'=vp\/vp'=.slice none 0 0)/\(vt'=vt\/vt'=.slice none 0 0)
theorem TG {o:Option Nat} {b g:Nat} (h:o≠some g) (hb:o=some b):some b∉ [some g] :=fun hm=>by
 simp only [List.mem_singleton,Option.some.injEq] at hm
 exact h (by rw [hb,hm])
def zeroed (w:World) (g:Nat):World:=((((w.setCell ⟨g,4,none⟩ (.int .u8 0)).setCell ⟨g,5,none⟩ (.int .u8 0)).setCell ⟨g,6,none⟩ (.int .i64 0)).setCell ⟨g,7,none⟩ (.slice none 0 0)).setCell ⟨g,8,none⟩ (.slice none 0 0)
theorem Ib (w:World) (g:Nat):Kept [some g] w (zeroed w g):=
 (((((Kept.refl _ w).setCell (p:=⟨g,4,none⟩) (From.mem (by simp)) _).setCell (p:=⟨g,5,none⟩) (From.mem (by simp)) _).setCell (p:=⟨g,6,none⟩) (From.mem (by simp)) _).setCell (p:=⟨g,7,none⟩) (From.mem (by simp)) _).setCell (p:=⟨g,8,none⟩) (From.mem (by simp)) _
theorem Ny {w:World} {B g:Nat} {s:PA.S} {vp vt:Value} (h:PB w B g s vp vt):PB (zeroed w g) B g ⟨s.st,s.dec,PA.d0⟩ (.slice none 0 0) (.slice none 0 0):=
 ⟨by
  have:=((((h.box.set 4 (.int .u8 0)).set 5 (.int .u8 0)).set 6 (.int .i64 0)).set 7 (.slice none 0 0)).set 8 (.slice none 0 0)
  simpa [Cz,PA.d0,zeroed] using this,World.ownsRow_nil _ _ _ _,World.ownsRow_nil _ _ _ _,h.low,fun _=>rfl,fun _=>rfl⟩
theorem Wd {w w1 w2 w3:World} {B g n:Nat} {s3 s4:PA.S} {e1 e2:List PA.Ev} {M M':List (PA.Ev × Value)} {vp vt v o v' vp2 vt2 vp3 vt3 vp4 vt4:Value} {xs:List Value} {a:Int}
  (hM:M.map (·.1)=e1) (hnil: ∀p∈M,p.2=.slice none 0 0) (hOM:GA w1 B M) (hK1:Kept [some g,v.ownBlock] w w1) (hF:From w [v.ownBlock] o.ownBlock)
  (hp2:vp2=vp\/vp2=.slice none 0 0) (ht2:vt2=vt\/vt2=.slice none 0 0)
  (hM':M'.map (·.1)=e2) (hown:w2.ownsRow B 34 7 v' (n+M.length+M'.length) (xs++CF M++CF M')) (qL:GA w2 B M') (hQ: ∀p∈M',p.2=.slice none 0 0\/(p.2=vp2/\Fy a vp2 vp3))
  (hK2:Kept [some g,o.ownBlock,vp2.ownBlock,vt2.ownBlock] w1 w2) (f1:From w1 [o.ownBlock] v'.ownBlock) (f2:From w1 [vp2.ownBlock] vp3.ownBlock) (f3:From w1 [vt2.ownBlock] vt3.ownBlock)
  (hP2:PB w2 B g s3 vp3 vt3) (hK3:Kept [some g] w2 w3) (hP3:PB w3 B g s4 vp4 vt4) (h4:(vp4=vp3/\vt4=vt3/\a≠160)\/(vp4=.slice none 0 0/\vt4=.slice none 0 0)):
  Hl B g s4 (e1++e2) vp vt v n xs (fun x=>x=.slice none 0 0) w (.returned v') w3:=by
 have hn2: ∀b,v'.ownBlock=some b->some b∉ [some g] :=fun b hb=>TG (Aa hown hP2.box (by decide)) hb
 have s01:=hK1.size
 have fp:From w [vp.ownBlock] vp2.ownBlock:=by
  rcases hp2 with rfl | rfl
  ·exact From.mem (by simp)
  ·exact From.none _ _
 have ft:From w [vt.ownBlock] vt2.ownBlock:=by
  rcases ht2 with rfl | rfl
  ·exact From.mem (by simp)
  ·exact From.none _ _
 have fp3:=f2.Gc fp s01
 have ft3:=f3.Gc ft s01
 have hK:Kept [some g,v.ownBlock,vp.ownBlock,vt.ownBlock] w w3:=by
  refine((hK1.more (L':= [some g,v.ownBlock,vp.ownBlock,vt.ownBlock]) (by simp+contextual)).trans hK2 ?_).trans hK3 ?_
  ·intro x hx
   simp only [List.mem_cons,List.not_mem_nil,or_false] at hx
   rcases hx with rfl | rfl | rfl | rfl
   ·exact From.mem (by simp)
   ·exact hF.mono (by simp)
   ·exact fp.mono (by simp)
   ·exact ft.mono (by simp)
  ·intro x hx
   simp only [List.mem_singleton] at hx
   subst hx
   exact From.mem (by simp)
 refine⟨v',vp4,vt4,M++M',rfl,by rw [List.map_append,hM,hM'],hP3,?_,?_,?_,hK,f1.Gc hF s01,?_,?_⟩
 ·have:=BH hown hK3 hn2
  rw [JM,List.length_append, <- Nat.add_assoc, <- List.append_assoc]
  exact this
 ·refine GA.app (fun p hp=>?_) (fun p hp=>?_)
  ·have h:=hOM p hp
   rw [hnil p hp] at h⊢
   exact⟨h.1,.inl ⟨rfl,by simpa using dA h⟩⟩
  ·refine BH (qL p hp) hK3 (fun b hb=>TG (Aa (qL p hp) hP2.box (by decide)) hb)
 ·intro p hp
  rcases List.mem_append.1 hp with hp | hp
  ·exact .inl (hnil p hp)
  ·rcases hQ p hp with hq | ⟨hq,hc⟩
   ·exact .inl hq
   ·rcases h4 with ⟨_,_,h4⟩ | ⟨h4,_⟩
    ·exact absurd hc.2 h4
    ·rcases hp2 with h | h
     ·exact .inr ⟨hq.trans h,h4⟩
     ·exact .inl (hq.trans h)
 ·rcases h4 with ⟨rfl,_,_⟩ | ⟨rfl,_⟩
  ·exact fp3
  ·exact From.none _ _
 ·rcases h4 with ⟨_,rfl,_⟩ | ⟨_,rfl⟩
  ·exact ft3
  ·exact From.none _ _
set_option maxRecDepth 100000 in
theorem ZQ (B g:Nat) (s:PA.S) (vp vt v:Value) (n:Nat) (xs:List Value) (b:Int) (w:World) (h:PB w B g s vp vt) (hk:s.ok) (hv:w.ownsRow B 34 7 v n xs) (hn:n<=137438953472) (hpp:s.d.parts<=1099511626000) (h0:0<=b) (h1:b<256) (hB:6<=B) (ht:F9 w):
  Calls Tryz.prog 103 #[.pointer (some ⟨g,0,none⟩),v,.int .u8 b] w (Hl B g (PA.take s b).1 (PA.take s b).2 vp vt v n xs (fun x=>x=.slice none 0 0) w):=by
 obtain⟨i0,hi,hz0,hz1,hz2⟩:=info_parts Cq
 obtain⟨k0,k1,k2,k3,k4,k5,k6,k7,k8⟩:=h.box.nine
 have fr:=h.box.frozen
 have hlt:=h.lt
 have hBw:B<=w.heap.size:=by have:=h.low;omega
 have HB:=hide h
 have HV:=hide hv
 have HK:=hide hk
 have HT:=hide ht
 have CH:=hide (IY s.dec)
 have hbr:PA.brk s b=if b<128/\0<s.dec.need then (⟨s.st,U.z,s.d⟩, [PA.pr 65533]) else (s, []):=rfl
 have EB:=hide hbr
 obtain⟨x,hx⟩: ∃x:Bool,decide (b<128/\0<s.dec.need)=x:=⟨_,rfl⟩
 have HX:=hide hx
 obtain⟨r,hr⟩: ∃r,PA.take s b=r:=⟨_,rfl⟩
 rw [hr]
 have HR:=hide hr
 clear h hv hk ht hbr hx hr k0 k4 k5 k6 k7 k8
 go_enter Tryz.func103,Tryz.ntmps103
 go_upto_region 1 with fail
 go_cut [17] (fun u wr=>u=.bool x/\Below w.heap.size w wr)
 case first=>
  by_cases hb:b<128
  ·by_cases hh:0<s.dec.need
   ·have E:=hide (show decide (b<128/\0<s.dec.need)=true by simp [hb,hh])
    have hd:decide (0<s.dec.need)=true:=by simp [hh]
    rw [hd] at CH
    go_wp2_with fail
    refine(CH.out _).mono ?_
    rintro e w2 ⟨rfl,rfl⟩
    go_wp2_with fail
    go_meet
    exact⟨by rw [<- HX.out,E.out],(Below.refl _ _).alloc (Nat.le_refl _) _⟩
   ·have E:=hide (show decide (b<128/\0<s.dec.need)=false by simp [hh])
    have hd:decide (0<s.dec.need)=false:=by simp [hh]
    rw [hd] at CH
    go_wp2_with fail
    refine(CH.out _).mono ?_
    rintro e w2 ⟨rfl,rfl⟩
    go_wp2_with fail
    go_meet
    exact⟨by rw [<- HX.out,E.out],(Below.refl _ _).alloc (Nat.le_refl _) _⟩
  ·have E:=hide (show decide (b<128/\0<s.dec.need)=false by simp [hb])
   go_wp2_with fail
   go_meet
   exact⟨by rw [<- HX.out,E.out],Below.refl _ _⟩
 case rest=>
  obtain⟨rfl,bb⟩:=hcut
  have hPc:=HB.out.below bb
  have hvc:=BH HV.out (Kept.of_below (L:= []) bb) (by simp)
  obtain⟨s1,hs1⟩: ∃s1,(PA.brk s b).1=s1:=⟨_,rfl⟩
  obtain⟨e1,he1⟩: ∃e1,(PA.brk s b).2=e1:=⟨_,rfl⟩
  have HS1:=hide hs1
  have HE1:=hide he1
  clear CH k1 k2 k3 fr
  go_upto_if 17 with fail
  go_cut [1] (fun o wr=>qJ B g s1 e1 vp vt v n xs w o wr)
  case first=>
   obtain⟨j0,j1,j2,j3,j4,j5,j6,j7,j8⟩:=hPc.box.nine
   have fr:=hPc.box.frozen
   have PC:=hide (Ia 65533)
   rcases x with _ | _
   case true=>
    have hh:b<128/\0<s.dec.need:=by simpa using HX.out
    have E1:=HS1.out
    have E2:=HE1.out
    rw [EB.out,if_pos hh] at E1 E2
    have hbz:=((hPc.box.set 1 (.int .i64 0)).set 2 (.int .i64 0)).set 3 (.int .i64 0)
    have hP2:PB (((wc.setCell ⟨g,1,none⟩ (.int .i64 0)).setCell ⟨g,2,none⟩ (.int .i64 0)).setCell ⟨g,3,none⟩ (.int .i64 0)) B g s1 vp vt:=by
     subst E1
     exact⟨by simpa [Cz,U.z] using hbz,BF (BF (BF hPc.par hPc.pne (p:=⟨g,1,none⟩) _) hPc.pne (p:=⟨g,2,none⟩) _) hPc.pne (p:=⟨g,3,none⟩) _,BF (BF (BF hPc.txt hPc.tne (p:=⟨g,1,none⟩) _) hPc.tne (p:=⟨g,2,none⟩) _) hPc.tne (p:=⟨g,3,none⟩) _,hPc.low,hPc.pn,hPc.tn⟩
    have hv2:=BF (BF (BF hvc (Aa hvc hPc.box (by decide)) (p:=⟨g,1,none⟩) (.int .i64 0)) (Aa hvc hPc.box (by decide)) (p:=⟨g,2,none⟩) (.int .i64 0)) (Aa hvc hPc.box (by decide)) (p:=⟨g,3,none⟩) (.int .i64 0)
    have hK2:Kept [some g] w (((wc.setCell ⟨g,1,none⟩ (.int .i64 0)).setCell ⟨g,2,none⟩ (.int .i64 0)).setCell ⟨g,3,none⟩ (.int .i64 0)):=
     (((Kept.of_below bb).setCell (p:=⟨g,1,none⟩) (From.mem (by simp)) _).setCell (p:=⟨g,2,none⟩) (From.mem (by simp)) _).setCell (p:=⟨g,3,none⟩) (From.mem (by simp)) _
    have HP2:=hide hP2
    have HV2:=hide hv2
    have HK2:=hide hK2
    have EE:=hide E2
    clear E1 E2 hbz hP2 hv2 hK2 hPc hvc hh
    go_wp2_with fail
    refine(PC.out _).mono ?_
    rintro e w2 ⟨rfl,b2⟩
    have hv3:=BH HV2.out (Kept.of_below (L:= []) b2) (by simp)
    have hsz2:=b2.size
    have hsz1:=HK2.out.size
    go_wp2_with (at_builtin;refine CX rfl (.tmp 22) (.tmp 24) 56 rfl B 34 i0 _ 7 56 Tryz.underlying56 hi hz0 hz1 hz2 Cx (by omega) v n _ rfl hv3 _ _ _ rfl rfl rfl (by intro u hu;simp at hu;(repeat' (first | (rcases hu with rfl | hu) | subst hu))<;>rfl) (by omega) (by omega) (by omega) ?_;intro v' w3 hown3 hg3 hm3)
    go_meet
    have hK3:Kept [v.ownBlock] (((wc.setCell ⟨g,1,none⟩ (.int .i64 0)).setCell ⟨g,2,none⟩ (.int .i64 0)).setCell ⟨g,3,none⟩ (.int .i64 0)) w3:=(Kept.of_below b2).grown hg3 (From.mem (by simp))
    obtain⟨a,b',d⟩:=Fx HP2.out HV2.out
    refine⟨[(PA.pr 65533,.slice none 0 0)],EE.out,HP2.out.kept hK3 a b' d,?_,by simp,fun p hp=>?_,(HK2.out.more (by simp)).trans hK3 ?_,(From.moved hm3).later (by omega)⟩
    ·rw [JN, <- Nw]
     exact hown3
    ·simp only [List.mem_singleton] at hp
     subst hp
     exact World.ownsRow_nil _ _ _ _
    ·intro x hx
     simp only [List.mem_singleton] at hx
     subst hx
     exact From.mem (by simp)
   case false=>
    have hh: ¬(b<128/\0<s.dec.need):=by simpa using HX.out
    have E1:=HS1.out
    have E2:=HE1.out
    rw [EB.out,if_neg hh] at E1 E2
    have HP:=hide hPc
    have HVC:=hide hvc
    have EA:=hide E1
    have EE:=hide E2
    clear E1 E2 hPc hvc hh
    go_wp2_with fail
    go_meet
    refine⟨[],EE.out,?_,by simpa [CF] using HVC.out,by simp,GA.nil _ _,Kept.of_below bb,From.mem (by simp)⟩
    rw [<- EA.out]
    exact HP.out
  case rest=>
   clear hPc hvc
   obtain⟨M,hM,hP,hown,hnil,hOM,hKa,hF⟩:=hcut
   have ok1:s1.ok:=by rw [<- hs1];exact PA.SV HK.out b
   have mR:s1.d.parts<=1099511626000:=by
    have:=PA.Np s b
    rw [hs1] at this
    rw [this]
    exact hpp
   have htk:PA.take s b=(PA.clr (PA.doo (PA.mid s1 b).2 (PA.mid s1 b).1 b).1,e1++(PA.doo (PA.mid s1 b).2 (PA.mid s1 b).1 b).2):=by
    rw [<- hs1, <- he1]
    rfl
   have hMlen:M.length<=1:=by
    have:=PA.Uo s b
    rw [he1, <- hM] at this
    simpa using this
   have hL: ∀q,some q∈ [some g,v.ownBlock] ->6<=q:=fun q hq=>by
    simp only [List.mem_cons,List.not_mem_nil,or_false,Option.some.injEq] at hq
    rcases hq with rfl | hq
    ·have:=HB.out.low;omega
    ·have:=(HV.out.lt q hq.symm).1;omega
   have HTc:=hide (HT.out.kept hKa hL)
   have stb:=ok1.st
   have nb:=PA.SQ s1.st b stb.1 stb.2 h0 h1
   have MV:=hide (fun w' t=>MP s1.st b w' stb.1 stb.2 h0 h1 t)
   have MV2:=hide (fun w' t=>MP (PA.nxt s1.st b) b w' nb.1 nb.2 h0 h1 t)
   have mok:=PA.SX ok1 h0 h1
   have mpp:=PA.Nq s1 b
   have hmid:PA.mid s1 b=if PA.act s1.st b=192 then (PA.act (PA.nxt s1.st b) b,⟨PA.nxt (PA.nxt s1.st b) b,s1.dec,PA.d0⟩) else (PA.act s1.st b,⟨PA.nxt s1.st b,s1.dec,s1.d⟩):=rfl
   have qM:(PA.mid s1 b).2.dec=s1.dec:=by rw [hmid];split<;>rfl
   generalize PA.mid s1 b=m at*
   obtain⟨a2,⟨n2,c2,d2⟩⟩:=m
   simp only [] at mok mpp qM hmid
   subst qM
   have Wh:=hide hmid
   have HPc:=hide hP
   have HOWN:=hide hown
   have HOM:=hide hOM
   have HKA:=hide hKa
   have HMM:=hide hM
   have mU:=hide hnil
   have qN:=hide mok
   have j0:=hP.box.nine.1
   have EX:=hide htk
   generalize PA.act (PA.nxt s1.st b) b=a3 at MV2 Wh
   generalize PA.nxt (PA.nxt s1.st b) b=n3 at MV2 Wh
   generalize PA.act s1.st b=a1 at MV Wh
   generalize PA.nxt s1.st b=n1 at MV MV2 Wh nb
   clear hmid hP hown hOM hKa hM hnil mok htk hs1 he1 HS1 HE1 EB HX bb hL
   go_wp2_with fail
   refine(MV.out _ HTc.out).mono ?_
   rintro e w2 ⟨rfl,b2⟩
   have HP2:=hide (HPc.out.below b2)
   have HTw:=hide (HTc.out.keep b2)
   go_upto_if 36 with fail
   go_cut [7,8] (fun u7 u8 wr=>qK B g s1 d2 a2 n2 vp vt w2 u7 u8 wr)
   case first=>
    obtain⟨j0,j1,j2,j3,j4,j5,j6,j7,j8⟩:=HP2.out.box.nine
    have fr:=HP2.out.box.frozen
    have Wi:=Wh.out
    by_cases ha:a1=192
    ·rw [if_pos ha] at Wi
     subst ha
     have HEM:=hide Wi
     have HZ:=hide (HTw.out.kept (Ib w2 g) (fun q hq=>by simp only [List.mem_singleton,Option.some.injEq] at hq;subst hq;have:=HB.out.low;omega))
     clear Wi
     go_wp2_with fail
     refine(MV2.out _ HZ.out).mono ?_
     rintro e w3 ⟨rfl,b3⟩
     go_wp2_with fail
     go_meet
     have:=HEM.out
     simp only [Prod.mk.injEq,PA.S.mk.injEq,true_and] at this
     obtain⟨rfl,rfl,rfl⟩:=this
     exact⟨rfl,rfl,_,_,(Ny HP2.out).below b3,(Ib w2 g).below b3,.inr rfl,.inr rfl⟩
    ·rw [if_neg ha] at Wi
     have ha':(a1==192)=false:=by simpa using ha
     have HEM:=hide Wi
     clear Wi ha
     go_wp2_with fail
     go_meet
     have:=HEM.out
     simp only [Prod.mk.injEq,PA.S.mk.injEq,true_and] at this
     obtain⟨rfl,rfl,rfl⟩:=this
     exact⟨rfl,rfl,_,_,HP2.out,Kept.refl _ _,.inl rfl,.inl rfl⟩
   case rest=>
    clear j0
    obtain⟨rfl,rfl,vp2,vt2,hP2,hK2,hvp,hvt⟩:=hcut
    obtain⟨ok2,isa,dig,csi⟩:=qN.out
    have hPs:PB (wc.setCell ⟨g,0,none⟩ (.int .u8 n2)) B g ⟨n2,s1.dec,d2⟩ vp2 vt2:=hP2.store 0 _ (by simp [Cz]) hP2.par hP2.txt hP2.pn hP2.tn
    have hKs:Kept [some g] w2 (wc.setCell ⟨g,0,none⟩ (.int .u8 n2)):=hK2.setCell (p:=⟨g,0,none⟩) (From.mem (by simp)) _
    have mV:=BH HOWN.out (Kept.of_below (L:= []) b2) (by simp)
    have qO:=BH mV hKs (fun q hq=>TG (Aa mV HP2.out.box (by decide)) hq)
    have qP:GA (wc.setCell ⟨g,0,none⟩ (.int .u8 n2)) B M:=(HOM.out.kept (Kept.of_below (L:= []) b2) (by simp)).kept hKs (fun p hp q hq=>by rw [mU.out p hp] at hq;simp [Value.ownBlock] at hq)
    have qR:Kept [some g,v.ownBlock] w (wc.setCell ⟨g,0,none⟩ (.int .u8 n2)):=(HKA.out.below b2).trans hKs (by
     intro q hq
     simp only [List.mem_singleton] at hq
     subst hq
     exact From.mem (by simp))
    have DO:=hide (mQ B g ⟨n2,s1.dec,d2⟩ vp2 vt2 u1 (n+M.length) (xs++CF M) a2 b _ hPs ok2 qO (by omega) (by simp only [];omega) h0 h1 isa dig)
    have j0:=hP2.box.nine.1
    have fr:=hP2.box.frozen
    have HPs:=hide hPs
    have qU:=hide qP
    have qV:=hide qR
    have HC:=hide csi
    clear hPs hKs mV qO qP qR hP2 hK2 ok2 isa dig csi Wh qN MV MV2
    obtain⟨s3,hs3⟩: ∃s3,PA.doo ⟨n2,s1.dec,d2⟩ a2 b=s3:=⟨_,rfl⟩
    rw [hs3] at DO
    have HS3:=hide hs3
    have ES:=EX
    clear hs3 EX
    obtain⟨s3,e3⟩:=s3
    go_wp2_with fail
    refine DO.out.mono ?_
    rintro e w5 ⟨v',vp3,vt3,M',rfl,hM',hP5,hown5,qW,hQ5,hK5,f1,f2,f3⟩
    have q0:=hP5.box.nine.1
    have q4:=hP5.box.nine.2.2.2.2.1
    have q5:=hP5.box.nine.2.2.2.2.2.1
    have q6:=hP5.box.nine.2.2.2.2.2.2.1
    have q7:=hP5.box.nine.2.2.2.2.2.2.2.1
    have q8:=hP5.box.nine.2.2.2.2.2.2.2.2
    have qf:=hP5.box.frozen
    have e:=HR.out.symm.trans ES.out
    rw [HS3.out] at e
    simp only [] at e
    have E:=hide e
    have TB:=hide (fun (w6:World) (s4:PA.S) (vp4 vt4:Value) (k:Kept [some g] w5 w6) (p:PB w6 B g s4 vp4 vt4) (h4:(vp4=vp3/\vt4=vt3/\a2≠160)\/(vp4=.slice none 0 0/\vt4=.slice none 0 0))=>
     Wd HMM.out mU.out qU.out qV.out hF hvp hvt hM' hown5 qW hQ5 hK5 f1 f2 f3 hP5 k p h4)
    have HP5:=hide hP5
    have HV5:=hide (Bb hown5)
    clear e hM' hown5 qW hQ5 hK5 f1 f2 f3 hP5 j0 fr hvp hvt HMM mU qU qV HPs HPc HOWN HOM HKA HTc HP2 HTw DO
    have cs:s3.st=1\/s3.st=2\/s3.st=4\/s3.st=8\/s3.st=11\/(PA.lets s3.st=false/\(s3.st==1)=false/\(s3.st==2)=false/\(s3.st==4)=false/\(s3.st==8)=false/\(s3.st==11)=false):=by
     simp [PA.lets]
     omega
    rcases cs with hst | hst | hst | hst | hst | hst
    case inr.inr.inr.inr.inr=>
     obtain⟨hl,t1,t2,t4,t8,t11⟩:=hst
     have HL:=hide hl
     clear hl q4 q5 q6 q7 q8 qf
     go_wp2_with fail
     go_ret
     rw [E.out]
     have mW:PA.clr s3=s3:=by unfold PA.clr;rw [HL.out];rfl
     rw [mW]
     refine TB.out _ _ _ _ (Kept.refl _ _) HP5.out (.inl ⟨rfl,rfl,fun ha=>?_⟩)
     have h1:n2=1:=HC.out ha
     have h3:=HS3.out
     rw [ha,h1] at h3
     have h5:s3=⟨1,s1.dec,d2⟩:=(congrArg Prod.fst h3).symm
     rw [h5] at t1
     simp at t1
    all_goals
     have hl:PA.lets s3.st=true:=by simp [PA.lets,hst]
     rw [hst] at q0
     have HL:=hide hl
     have HST:=hide hst
     clear hl hst
     go_wp2_with fail
     go_ret
     rw [E.out]
     have mW:PA.clr s3=⟨s3.st,s3.dec,PA.d0⟩:=by unfold PA.clr;rw [HL.out];rfl
     rw [mW]
     exact TB.out (zeroed w5 g) _ _ _ (Ib _ _) (Ny HP5.out) (.inr ⟨rfl,rfl⟩)
end Go.Proofs.YtoaabebgmdbjeaaGreatDoor
