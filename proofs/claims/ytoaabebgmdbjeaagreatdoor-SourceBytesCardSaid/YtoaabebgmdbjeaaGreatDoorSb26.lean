/- A part of the proof: RefCsiAny, RefText, RefEscAny, UtfTail. -/
import Derived.Test.YtoaabebgmdbjeaaGreatDoorSb25
set_option maxRecDepth 100000
set_option maxHeartbeats 16000000
set_option linter.unusedVariables false
namespace Go.Proofs.YtoaabebgmdbjeaaGreatDoor
open Go Go.RowKit
theorem Ms {l:List Int} {x:Int} (hb: ∀x∈l,0<=x/\x<256) (h:(PA.nx l).2.2=some x):32<=x/\x<127:=((PA.Qz PA.ak l hb).2 x h).2
theorem Mt: ∀(l:List Int) (x:Int),(PA.nx l).2.2=some x->(PA.nx l).1.length+(PA.nx l).2.1.length+1<=l.length
 | [],x,h=>by cases h
 | d::l,x,h=>by
  have ih:=Mt l x
  unfold PA.nx at h⊢
  by_cases h1:d=24\/d=26
  ·rw [if_pos h1] at h
   cases h
  rw [if_neg h1] at h⊢
  by_cases h2:d=27\/128<=d
  ·rw [if_pos h2] at h
   cases h
  rw [if_neg h2] at h⊢
  by_cases h3:d=127
  ·rw [if_pos h3] at h⊢
   have:=ih h
   simp only [List.length_cons]
   omega
  rw [if_neg h3] at h⊢
  by_cases h4:d<32
  ·rw [if_pos h4] at h⊢
   have:=ih h
   simp only [List.length_cons]
   omega
  ·rw [if_neg h4]
   simp
theorem RAt.meas {w0 w1 w:World} {B g n c:Nat} {A:Option Addr} {b l:List Int} {es:List PA.Ev} {v1 v:Value} (h:RAt w0 w1 B g n c A b l es v1 v w) (hbn:b.length=n):n-(intOf ((w.cell? ⟨g,1,none⟩).getD undef)).toNat=l.length:=by
 obtain⟨k,M,h1,h2,_,_,h5⟩:=h
 rw [h5.box.cell 1, <- h2,List.length_drop,hbn]
 simp [intOf]
theorem RAt.less {w0 w1 w w':World} {B g n c:Nat} {A:Option Addr} {b l l':List Int} {es es':List PA.Ev} {v1 v v1' v':Value} (h:RAt w0 w1 B g n c A b l es v1 v w) (h':RAt w0 w1 B g n c A b l' es' v1' v' w') (hbn:b.length=n) (hl:l'.length<l.length):n-(intOf ((w'.cell? ⟨g,1,none⟩).getD undef)).toNat<n-(intOf ((w.cell? ⟨g,1,none⟩).getD undef)).toNat:=by
 rw [h.meas hbn,h'.meas hbn]
 exact hl
theorem RAt.bytes {w0 w1 w:World} {B g n c:Nat} {A:Option Addr} {b l:List Int} {es:List PA.Ev} {v1 v:Value} (h:RAt w0 w1 B g n c A b l es v1 v w) (hb: ∀x∈b,0<=x/\x<256): ∀x∈l,0<=x/\x<256:=by
 obtain⟨k,M,h1,h2,_⟩:=h
 subst h2
 exact fun x hx=>hb x (List.mem_of_mem_drop hx)
structure CB (w:World) (gE:Nat) (pv it:Int) (prs:List Int) (ps:Value) (wr:World):Prop where
 own:wr.ownsRow w.heap.size 3 1 ps prs.length (EO prs)
 ev:Box wr gE 34 #[.int .i64 4,.int .i32 0,.int .u8 pv,.int .u8 it,.int .u8 0,.slice none 0 0,.string ⟨#[]⟩]
section
variable {w0 w wr w2:World} {B g gE n c:Nat} {A:Option Addr} {b l l2:List Int} {es es2:List PA.Ev} {v v1 v2 ps:Value} {pv it:Int} {prs:List Int}
theorem CB.next (h:CB w gE pv it prs ps wr) (hv:some gE≠v1.ownBlock) (h1:RAt w0 w B g n c A b l es v v1 wr) (h2:RAt w0 wr B g n c A b l2 es2 v1 v2 w2):CB w gE pv it prs ps w2/\some gE≠v2.ownBlock:=by
 obtain⟨k1,M1,_,_,_,_,s1⟩:=h1
 obtain⟨k2,M2,_,_,_,_,s2⟩:=h2
 have hge:gE≠g:=bB h.ev s1.box (by decide)
 refine⟨⟨BH h.own s2.kept (fun q hq hm=>?_),h.ev.kept s2.kept (by simp only [List.mem_cons,List.not_mem_nil,or_false,not_or,Option.some.injEq];exact⟨hge,hv⟩)⟩,fun e=>?_⟩
 ·simp only [List.mem_cons,List.not_mem_nil,or_false] at hm
  rcases hm with hm | hm
  ·exact Aa h.own s1.box (by decide) (hq.trans hm)
  ·exact Bv h.own s1.own (by decide) hq hm.symm
 ·rcases s2.src gE e.symm with x | x
  ·simp only [List.mem_singleton] at x
   exact hv x
  ·have:=h.ev.lt
   omega
theorem CB.inter (h:CB w gE pv it prs ps wr) (x:Int):CB w gE pv x prs ps (wr.setCell ⟨gE,3,none⟩ (.int .u8 x)):=
 ⟨BF h.own (p:=⟨gE,3,none⟩) (Aa h.own h.ev (by decide)) _,by simpa using h.ev.set 3 (.int .u8 x)⟩
theorem CB.priv (h:CB w gE pv it prs ps wr) (x:Int):CB w gE x it prs ps (wr.setCell ⟨gE,2,none⟩ (.int .u8 x)):=
 ⟨BF h.own (p:=⟨gE,2,none⟩) (Aa h.own h.ev (by decide)) _,by simpa using h.ev.set 2 (.int .u8 x)⟩
theorem CB.row (h:CB w gE pv it prs ps wr) (hw:w.heap.size<=wr.heap.size) (kk:Kept [] wr w2) {oG:List Int} {ps':Value} (ho:w2.ownsRow wr.heap.size 3 1 ps' oG.length (EO oG)):CB w gE pv it oG ps' w2:=
 ⟨own_base' ho hw,h.ev.kept kk (by simp)⟩
theorem RAt.evs (h:RAt w0 w B g n c A b l es v v1 wr) (hBw:B<=w0.heap.size) {cs:Array Value} (hb:Box wr gE 34 cs) (hq:w.heap.size<=gE) (hB:B<=gE) (hv:some gE≠v1.ownBlock) (i:Nat) (x:Value):RAt w0 w B g n c A b l es v v1 (wr.setCell ⟨gE,i,none⟩ x):=
 h.side hBw ((Kept.refl [some gE] wr).setCell (p:=⟨gE,i,none⟩) (From.mem (by simp)) x) hb hq hB hv
end
def oH (w0 w:World) (B g n c:Nat) (A:Option Addr) (b:List Int) (E1:List PA.Ev) (L2:List Int) (gE:Nat) (v rt mn fs ps:Value) (wr:World):Prop:=
 ∃(r:PA.RC) (f q:Nat) (l':List Int) (es':List PA.Ev) (v':Value),rt=.bool r.right/\mn=.int .i64 (r.many:Nat)/\fs=.bool r.first/\l'.length<f/\PA.jk q r/\q+l'.length<=n/\es'++(PA.cs f r l').1=E1/\(PA.cs f r l').2=L2/\RAt w0 w B g n c A b l' es' v v' wr/\some gE≠v'.ownBlock/\CB w gE r.priv r.inter r.params ps wr
def CEnd (w0 w:World) (B g n c:Nat) (A:Option Addr) (b l:List Int) (es:List PA.Ev) (gE:Nat) (v v':Value) (e:PA.Ev) (wr:World):Prop:=
 ∃A9 c9,Box wr gE 34 #[.int .i64 4,.int .i32 0,.int .u8 e.priv,.int .u8 e.inter,.int .u8 e.final,.slice A9 e.params.length c9,.string ⟨#[]⟩] /\Cg wr (e,.slice A9 e.params.length c9)/\RAt w0 w B g n c A b l es v v' wr
theorem Mv {w:World} {base q:Nat} {A:Option Addr} {cp m:Nat} {prs pp:List Int} {e:PA.Ev} (he:e.params=pp) (ho:w.ownsRow base 3 1 (.slice A q cp) q (EO prs)) (hp:pp=prs.take 16) (hm:pp.length=m) (hmc:m<=cp):Cg w (e,.slice A m cp):=by
 subst he hm
 have hl:e.params.length<=16:=by rw [hp,List.length_take];omega
 refine⟨A,cp,rfl,hmc,by show e.params.length<=100;omega,fun j u hu=>?_⟩
 have hj:j<e.params.length:=by have:=(List.getElem?_eq_some_iff.1 hu).1;simpa [EO] using this
 have hu2:(EO prs)[j]? =some u:=by
  simp only [EO,List.getElem?_map] at hu⊢
  rw [hp,List.getElem?_take] at hu
  split at hu
  ·exact hu
  ·simp at hu
 obtain⟨ad,e1,e2,e3⟩:=(Seen.Bu ho).2 j u hu2
 subst e1
 obtain⟨cur,hc⟩:=IG ho (b:=ad.block) rfl
 exact⟨ad,cur,rfl,hc,e3⟩
theorem jl (F:Nat) (w0 w:World) (B g n c:Nat) (A:Option Addr) (b l:List Int) (es:List PA.Ev) (v:Value) (hB:B<=g) (hBw:B<=w0.heap.size) (hbn:b.length=n) (hA:Seen w0 B A n (u8s b)) (hb: ∀x∈b,0<=x/\x<256) (hn:n<=100000) (hF:l.length<F) (H:RAt w0 w B g n c A b l es v v w):
  Calls Tryz.prog 105 #[.pointer (some ⟨g,0,none⟩)] w fun e w'=> ∃v',e=.returned (.tuple #[])/\RAt w0 w B g n c A b (PA.cs F PA.rc0 l).2 (es++(PA.cs F PA.rc0 l).1) v v' w':=by
 obtain⟨i0,hi,hz0,hz1,hz2⟩:=info_parts Cq
 obtain⟨i1,hj,hy0,hy1,hy2⟩:=info_parts QY
 have HBB:=hide hb
 have HAA:=hide hA
 obtain⟨E1,hE1⟩: ∃E,es++(PA.cs F PA.rc0 l).1=E:=⟨_,rfl⟩
 obtain⟨L2,hL2⟩: ∃E,(PA.cs F PA.rc0 l).2=E:=⟨_,rfl⟩
 rw [hE1,hL2]
 have HBS:B<=w.heap.size/\v.ownBlock≠some w.heap.size/\l.length<=n:=by
  obtain⟨k,M,h1,h2,_,_,h5⟩:=H
  exact⟨h5.size hBw,fun e=>by have:=(h5.own.lt _ e).2;omega,by rw [<- h2,List.length_drop];omega⟩
 have C0:oH w0 w B g n c A b E1 L2 w.heap.size v (.bool true) (.int .i64 0) (.bool true) (.slice (some ⟨w.heap.size+1,0,none⟩) 1 1) ((w.alloc (.cells #[.int .i64 4,.int .i32 0,.int .u8 0,.int .u8 0,.int .u8 0,.slice none 0 0,.string ⟨#[]⟩] 34)).alloc (.cells #[.int .i64 (-1)] 3)):=by
  refine⟨PA.rc0,F,0,l,es,v,rfl,rfl,rfl,hF,PA.ru,by omega,hE1,hL2,H.over hBw (((Below.refl w.heap.size w).alloc (Nat.le_refl _) _).alloc (by simp) _),fun e=>HBS.2.1 e.symm,?_,(Box.new w _ _).alloc _⟩
  exact⟨by simp [EO,PA.rc0],.inr ⟨w.heap.size+1,1, #[.int .i64 (-1)],rfl,by omega,by have:=heap_alloc_new (w.alloc (.cells #[.int .i64 4,.int .i32 0,.int .u8 0,.int .u8 0,.int .u8 0,.slice none 0 0,.string ⟨#[]⟩] 34)) (.cells #[.int .i64 (-1)] 3);simpa using this,by simp [PA.rc0],by simp [maxLen],by simp,by simp [EO,PA.rc0]⟩⟩
 have hBE:=HBS.1
 have C0:=hide C0
 clear hA hb H hE1 hL2 hF HBS
 go_enter Tryz.func105,Tryz.ntmps105
 go_upto_block 0 with fail
 generalize ((w.alloc (.cells #[.int .i64 4,.int .i32 0,.int .u8 0,.int .u8 0,.int .u8 0,.slice none 0 0,.string ⟨#[]⟩] 34)).alloc (.cells #[.int .i64 (-1)] 3))=w1 at C0⊢
 generalize w.heap.size+1=gR at C0⊢
 obtain⟨gE,hgE⟩: ∃gE,w.heap.size=gE:=⟨_,rfl⟩
 rw [hgE] at C0
 rw [hgE]
 have hwE:w.heap.size<=gE:=by omega
 have hE:B<=gE:=by omega
 clear hgE
 go_wp2_with fail
 go_loopw [3,4,5,6] (fun rt mn fs ps wr=>Hid (oH w0 w B g n c A b E1 L2 gE v rt mn fs ps wr)) (fun _ _ _ _ wr=>n-(intOf ((wr.cell? ⟨g,1,none⟩).getD undef)).toNat)
 case atStart=>exact C0
 case round=>
  obtain⟨r,f,q,l',es',v',rfl,rfl,rfl,hlf,hok,hql,he1,he2,hR,hv',hC⟩:=hrel.out
  clear C0 hrel
  obtain⟨pv,it,mny,rgt,fst,prs⟩:=r
  simp only [] at hC
  obtain⟨p,hp⟩: ∃p,prs.length=p+1:=⟨prs.length-1,by have:=hok.1;simp only [] at this;omega⟩
  have hpq:p<=q:=by have:=hok.2.1;simp only [] at this;omega
  have hmn:mny<=q:=hok.2.2.2
  have hqn:q<=100000:=by omega
  have HOK:=hide hok
  have HP:=hide hp
  have HR:=hide hR
  have HV:=hide hv'
  have HC:=hide hC
  obtain⟨f',rfl⟩: ∃f',f=f'+1:=⟨f-1,by omega⟩
  have HBL:=hide (hR.bytes HBB.out)
  have hsh:=PA.F7 l'
  have hct:=Mt l'
  have hln:=(show es'.length+3*l'.length<=3*n by obtain⟨_,_,_,_,_,h,_⟩:=hR;exact h)
  have hrg:=fun x=>Ms (l:=l') (x:=x) HBL.out
  unfold PA.cs at he1 he2
  have NX:=Q6 w0 wr B g n c A b l' es' v' hB hBw hbn HAA.out HBB.out hn hR.here
  obtain⟨N1,hN1⟩: ∃N,(PA.nx l').1=N:=⟨_,rfl⟩
  obtain⟨l2,hl2⟩: ∃N,(PA.nx l').2.1=N:=⟨_,rfl⟩
  have ho:=hC.own
  rw [hp] at ho
  obtain⟨Ap,cp,rfl,_⟩:=C9 ho
  clear hok hp hR hv' hC ho
  rcases hx:(PA.nx l').2.2 with _ | x
  ·rw [hx] at he1 he2 NX
   simp only [hN1,hl2,Option.getD_none,Option.isSome_none] at he1 he2 NX
   have HE:=hide (And.intro he1 he2)
   have NX:=hide NX
   clear he1 he2 hx hN1 hl2 hsh hrg
   go_wp2_with fail
   refine NX.out.mono ?_
   rintro e w2 ⟨v2,rfl,h2⟩
   have R2:=hide (HR.out.next h2)
   clear h2
   go_wp2_with fail
   refine bodyPost_ret (results_none rfl _ _ _) rfl ?_
   have hfin:=R2.out
   rw [HE.out.1,HE.out.2] at hfin
   first | exact⟨_,rfl,hfin⟩ | exact⟨rfl,_,hfin⟩
  have hs:=hsh x hx
  have hr:=hrg x hx
  have hc1:=hct x hx
  rw [hN1,hl2] at hc1
  have HBND:=hide (show(es'++N1).length+1+3*l2.length<=3*n by rw [List.length_append];omega)
  rw [hx] at he1 he2 NX
  simp only [hN1,hl2,Option.getD_some,Option.isSome_some] at he1 he2 NX hs
  have HE:=hide (And.intro he1 he2)
  have NX:=hide NX
  obtain⟨x0,x1⟩:=hr
  clear he1 he2 hx hN1 hl2 hsh hrg hct hln hc1
  by_cases c64:64<=x
  ·skip
   go_wp2_with fail
   refine NX.out.mono ?_
   rintro e w2 ⟨v2,rfl,h2⟩
   have R2:=hide (HR.out.next h2)
   have CN:=HC.out.next HV.out HR.out h2
   have M2:=hide CN.1
   have V2:=hide CN.2
   obtain⟨z0,z1,z2,z3,z4,z5,z6⟩:=M2.out.ev.seven
   have fz:=M2.out.ev.frozen
   clear h2 CN
   go_upto_region 9 with fail
   have hbd:Box (w2.setCell ⟨gE,4,none⟩ (.int .u8 x)) gE 34 #[.int .i64 4,.int .i32 0,.int .u8 pv,.int .u8 it,.int .u8 x,.slice none 0 0,.string ⟨#[]⟩] :=by simpa using M2.out.ev.set 4 (.int .u8 x)
   have B3:=hide hbd
   have R3:=hide (R2.out.evs hBw M2.out.ev hwE hE V2.out 4 (.int .u8 x))
   have O3:=hide (BF M2.out.own (p:=⟨gE,4,none⟩) (Aa M2.out.own M2.out.ev (by decide)) (.int .u8 x))
   go_upto_region 10 with fail
   generalize w2.setCell ⟨gE,4,none⟩ (.int .u8 x)=w3 at B3 R3 O3⊢
   clear hbd z0 z1 z2 z3 z4 z5 z6 fz M2 R2 NX HR HV HC
   have ho3:=O3.out
   rw [HP.out] at ho3
   obtain⟨b3,c3,hv3,hb3⟩:=Q7 ho3
   cases hv3
   obtain⟨y,hy⟩: ∃y,prs[0]? =some y:=⟨_,List.getElem?_eq_getElem (by rw [HP.out];omega)⟩
   have hcl:w3.cell? ⟨b3,0,none⟩=some (.int .i64 y):=(by rw [ho3.cellAt 0 (by omega),EO,List.getElem?_map,hy];rfl)
   obtain⟨y0,y1,y2,y3,y4,y5,y6⟩:=B3.out.seven
   have fE:=B3.out.frozen
   obtain⟨hz,hhz⟩: ∃hz,decide (1<prs.length\/prs.getD 0 0≠ -1)=hz:=⟨_,rfl⟩
   have hgy:prs.getD 0 0=y:=by rw [List.getD_eq_getElem?_getD,hy];rfl
   rw [HP.out,hgy] at hhz
   have HHZ:=hide hhz
   have HGY:=hide hgy
   have HBE:b3≠gE:=fun e=>Aa ho3 B3.out (by decide) (by rw [e];rfl)
   have HO3:=hide ho3
   clear ho3 hy hhz hgy O3
   go_cut [52] (fun u wx=>u=.bool hz/\wx=w3)
   case first=>
    by_cases hp1:0<p
    ·obtain rfl:true=hz:=by rw [<- HHZ.out];exact(decide_eq_true (by omega)).symm
     go_wp2_with fail
     go_meet
     first | exact⟨rfl,rfl⟩ | (simp;done)
    ·obtain rfl:p=0:=by omega
     by_cases hy1:y= -1
     ·obtain rfl:false=hz:=by rw [<- HHZ.out];exact(decide_eq_false (by omega)).symm
      have dy:(y != -1)=false:=by simpa using hy1
      clear hy1
      go_wp2_with fail
      go_meet
      first | exact⟨rfl,rfl⟩ | (simp;done)
     ·obtain rfl:true=hz:=by rw [<- HHZ.out];exact(decide_eq_true (by omega)).symm
      have dy:(y != -1)=true:=by simpa using hy1
      clear hy1
      go_wp2_with fail
      go_meet
      first | exact⟨rfl,rfl⟩ | (simp;done)
   case rest=>
    obtain⟨rfl,hw⟩:=hcut
    subst hw
    rename World=>w3
    obtain⟨pp,hpp⟩: ∃pp,(if 1<prs.length\/prs.getD 0 0≠ -1 then prs.take 16 else [])=pp:=⟨_,rfl⟩
    have HPP:=hide hpp
    have HFN:=hide (show PA.fin ⟨pv,it,mny,rgt,fst,prs⟩ x=if rgt=true/\mny<2 then [⟨4,0,pv,it,x,pp, []⟩] else [] by unfold PA.fin;simp only [];rw [hpp])
    clear hpp
    go_upto_if 52 with fail
    go_cut [] (fun wx=>Hid (CEnd w0 w B g n c A b l2 (es'++N1) gE v v2 ⟨4,0,pv,it,x,pp, []⟩ wx))
    case first=>
     cases hz with
     | false=>
      have hp0:pp= [] :=by
       have:=of_decide_eq_false HHZ.out
       rw [<- HPP.out,if_neg (by rw [HP.out,HGY.out];exact this)]
      go_wp2_with fail
      go_meet
      subst hp0
      exact hide ⟨none,0,B3.out,Cg.bare rfl,R3.out⟩
     | true=>
      have hpt:pp=prs.take 16:=by
       have:=of_decide_eq_true HHZ.out
       rw [<- HPP.out,if_pos (by rw [HP.out,HGY.out];exact this)]
      have hpc:p+1<=cp:=by
       obtain⟨_,_,e,h,_⟩:=C9 HO3.out
       cases e
       exact h
      by_cases h16:p+1<=16
      ·have h16i:(p:Int)+1<=16:=by omega
       have hpl:pp.length=p+1:=by rw [hpt,List.length_take,HP.out];omega
       have HPL:=hide hpl
       have HPT:=hide hpt
       clear hpl hpt
       go_wp2_with fail
       (try rw [show(min ((p:Int)+1) 16).toNat=p+1 from by omega])
       go_meet
       have hos:=BF HO3.out (p:=⟨gE,5,none⟩) (fun e=>HBE (by injection e)) (.slice (some ⟨b3,0,none⟩) (p+1) cp)
       refine hide ⟨some ⟨b3,0,none⟩,cp,by simp only [HPL.out];simpa using B3.out.set 5 (.slice (some ⟨b3,0,none⟩) (p+1) cp),by simp only [HPL.out];exact Mv (pp:=pp) rfl hos HPT.out HPL.out hpc,R3.out.evs hBw B3.out hwE hE V2.out 5 _⟩
      ·have h16i: ¬(p:Int)+1<=16:=by omega
       have h16j:(16:Int)<=(p:Int)+1:=by omega
       have h16k:(16:Int)<=(cp:Int):=by omega
       have hmm:min ((p:Int)+1) 16=16:=by omega
       have hpl:pp.length=16:=by rw [hpt,List.length_take,HP.out];omega
       have HPL:=hide hpl
       have HPT:=hide hpt
       clear hpl hpt
       go_wp2_with fail
       go_meet
       have hos:=BF HO3.out (p:=⟨gE,5,none⟩) (fun e=>HBE (by injection e)) (.slice (some ⟨b3,0,none⟩) 16 cp)
       refine hide ⟨some ⟨b3,0,none⟩,cp,by simp only [HPL.out];simpa using B3.out.set 5 (.slice (some ⟨b3,0,none⟩) 16 cp),by simp only [HPL.out];exact Mv (pp:=pp) rfl hos HPT.out HPL.out (by omega),R3.out.evs hBw B3.out hwE hE V2.out 5 _⟩
    case rest=>
     obtain⟨A9,c9,bE,pI,hR9⟩:=hcut.out
     simp only [] at bE pI
     obtain⟨u0,u1,u2,u3,u4,u5,u6⟩:=bE.seven
     have PI:=hide pI
     have HR9:=hide hR9
     clear bE pI hR9 hcut y0 y1 y2 y3 y4 y5 y6 fE hcl B3 R3 HO3
     by_cases hfin:rgt=true/\mny<2
     ·obtain⟨rfl,hm2⟩:=hfin
      have rz:(mny:Int)<2:=by omega
      obtain⟨k,M,hkn,hdl,hM,hln,hsb⟩:=HR9.out
      have HSB:=hide hsb
      obtain⟨s0,s1,s2,t0,t1,t2⟩:=hsb.box.three
      have qa: ∀o,(wc.alloc o).cell? ⟨g,2,none⟩=some v2:=fun o=>(World.cell?_alloc_lt wc o _ hsb.box.lt).trans s2
      have hsw:=hsb.size hBw
      have hml:M.length<=1000000:=by have e:M.length=(es'++N1).length:=(by rw [<- hM,List.length_map]);omega
      have HM:=hide hM
      clear hsb hM
      go_wp2_with fail
      go_region_law (refine(J9 (by rfl) (.tmp 68) (.tmp 70) 56 (by rfl) B 34 i0 _ 7 56 Tryz.underlying56 hi hz0 hz1 hz2 Cx (by omega) v2 M.length _ (by rfl) (HSB.out.alloc hBw _).drew.own #[.int .i64 4,.int .i32 0,.int .u8 pv,.int .u8 it,.int .u8 x,.slice A9 pp.length c9,.string ⟨#[]⟩] 34 wc.heap.size (by rfl) (Box.new wc 34 #[.int .i64 4,.int .i32 0,.int .u8 pv,.int .u8 it,.int .u8 x,.slice A9 pp.length c9,.string ⟨#[]⟩]).drew rfl (by simp [Value.oneCell']) (by omega) (by omega) (by simp;omega) ?_);intro v5 w5 hown5 hg5 hm5;obtain⟨A5,c5,rfl,_⟩:=Bb hown5;have bx5:=Box.grown (HSB.out.alloc hBw _).drew.box hg5 HSB.out.ne;obtain⟨j0,j1,j2,l0,l1,l2'⟩:=bx5.three)
      all_goals
       have R:=(HSB.out.alloc hBw _).drew.put (e:=⟨4,0,pv,it,x,pp, []⟩) (u:=.slice A9 pp.length c9) hB hBw hown5 hg5 hm5 ((PI.out.keep ((Below.refl wc.heap.size wc).alloc (Nat.le_refl _) _).drew))
       have HR3:=hide R
       clear hown5 hg5 hm5 bx5 j0 j1 j2 l0 l1 l2' R
       go_wp2_with fail
       refine bodyPost_ret (results_none rfl _ _ _) rfl ?_
       have Gj:=(show RAt w0 w B g n c A b l2 (es'++N1++ [⟨4,0,pv,it,x,pp, []⟩]) v _ _ from⟨k,M++ [(⟨4,0,pv,it,x,pp, []⟩,.slice A9 pp.length c9)],hkn,hdl,by rw [List.map_append,HM.out];rfl,by rw [List.length_append];exact HBND.out,HR3.out⟩)
       have hE:=HE.out
       rw [if_pos c64,HFN.out,if_pos (show _/\_ from⟨by first | trivial | rfl,hm2⟩), <- List.append_assoc] at hE
       rw [hE.1,show l2=L2 from hE.2] at Gj
       first | exact⟨_,rfl,Gj⟩ | exact⟨rfl,_,Gj⟩
     ·have bD:=HR9.out
      have hE:=HE.out
      rw [if_pos c64,HFN.out,if_neg hfin,List.append_nil] at hE
      rw [hE.1,show l2=L2 from hE.2] at bD
      have HFI:=hide bD
      clear bD hE
      cases rgt with
      | false=>
       go_wp2_with fail
       refine bodyPost_ret (results_none rfl _ _ _) rfl ?_
       first | exact⟨_,rfl,HFI.out⟩ | exact⟨rfl,_,HFI.out⟩
      | true=>
       have hm2: ¬(mny:Int)<2:=by have: ¬mny<2:=fun h=>hfin ⟨rfl,h⟩;omega
       go_wp2_with fail
       refine bodyPost_ret (results_none rfl _ _ _) rfl ?_
       first | exact⟨_,rfl,HFI.out⟩ | exact⟨rfl,_,HFI.out⟩
  have END:=hide (fun (r':PA.RC) (hr':PA.Cj ⟨pv,it,mny,rgt,fst,prs⟩ x=r') (v2 ps':Value) (w':World) (hR:RAt w0 w B g n c A b l2 (es'++N1) v v2 w') (hv:some gE≠v2.ownBlock) (hC:CB w gE r'.priv r'.inter r'.params ps' w')=>(show oH w0 w B g n c A b E1 L2 gE v (.bool r'.right) (.int .i64 (r'.many:Nat)) (.bool r'.first) ps' w'/\n-(intOf ((w'.cell? ⟨g,1,none⟩).getD undef)).toNat<n-(intOf ((wr.cell? ⟨g,1,none⟩).getD undef)).toNat from by
   have hE:=HE.out
   rw [if_neg (show¬64<=x by omega),hr', <- List.append_assoc] at hE
   exact⟨⟨r',f',q+1,l2,es'++N1,v2,rfl,rfl,rfl,by omega,hr'▸PA.Xo HOK.out x0 (by omega),by omega,hE.1,hE.2,hR,hv,hC⟩,HR.out.less hR hbn hs⟩))
  clear HE
  by_cases c1:x<48
  ·skip
   go_wp2_with fail
   refine NX.out.mono ?_
   rintro e w2 ⟨v2,rfl,h2⟩
   have R2:=hide (HR.out.next h2)
   have CN:=HC.out.next HV.out HR.out h2
   have M2:=hide CN.1
   have V2:=hide CN.2
   obtain⟨z0,z1,z2,z3,z4,z5,z6⟩:=M2.out.ev.seven
   have fz:=M2.out.ev.frozen
   clear h2 CN
   have R:=hide (END.out _ (by unfold PA.Cj;rw [if_pos c1]) v2 _ _ (R2.out.evs hBw M2.out.ev hwE hE V2.out 3 _) V2.out (M2.out.inter x))
   go_wp2_with fail
   go_roundw
   case rel=>exact hide (by simpa using R.out.1)
   case measure=>exact R.out.2
  by_cases c2:0<mny
  ·have c2':(0:Int)<(mny:Int):=by omega
   go_wp2_with fail
   refine NX.out.mono ?_
   rintro e w2 ⟨v2,rfl,h2⟩
   have R2:=hide (HR.out.next h2)
   have CN:=HC.out.next HV.out HR.out h2
   have M2:=hide CN.1
   have V2:=hide CN.2
   obtain⟨z0,z1,z2,z3,z4,z5,z6⟩:=M2.out.ev.seven
   have fz:=M2.out.ev.frozen
   clear h2 CN
   have R:=hide (END.out _ (by unfold PA.Cj;rw [if_neg (show¬x<48 by omega),if_pos (.inl c2)]) v2 _ _ R2.out V2.out M2.out)
   go_wp2_with fail
   go_roundw
   case rel=>exact hide (by simpa using R.out.1)
   case measure=>exact R.out.2
  obtain rfl:mny=0:=by omega
  by_cases c3:x=58
  ·have d58:(x==58)=true:=by simpa using c3
   go_wp2_with fail
   refine NX.out.mono ?_
   rintro e w2 ⟨v2,rfl,h2⟩
   have R2:=hide (HR.out.next h2)
   have CN:=HC.out.next HV.out HR.out h2
   have M2:=hide CN.1
   have V2:=hide CN.2
   obtain⟨z0,z1,z2,z3,z4,z5,z6⟩:=M2.out.ev.seven
   have fz:=M2.out.ev.frozen
   clear h2 CN
   have R:=hide (END.out _ (by unfold PA.Cj;rw [if_neg (show¬x<48 by omega),if_pos (.inr c3)]) v2 _ _ R2.out V2.out M2.out)
   clear c3
   go_wp2_with fail
   go_roundw
   case rel=>exact hide (by simpa using R.out.1)
   case measure=>exact R.out.2
  have d58:(x==58)=false:=by simpa using c3
  by_cases c4:60<=x
  ·skip
   go_wp2_with fail
   refine NX.out.mono ?_
   rintro e w2 ⟨v2,rfl,h2⟩
   have R2:=hide (HR.out.next h2)
   have CN:=HC.out.next HV.out HR.out h2
   have M2:=hide CN.1
   have V2:=hide CN.2
   obtain⟨z0,z1,z2,z3,z4,z5,z6⟩:=M2.out.ev.seven
   have fz:=M2.out.ev.frozen
   clear h2 CN
   have R:=hide (END.out _ (by unfold PA.Cj;rw [if_neg (show¬x<48 by omega),if_neg (by simp;omega),if_pos c4]) v2 _ _ (R2.out.evs hBw M2.out.ev hwE hE V2.out 2 _) V2.out (M2.out.priv x))
   clear c3
   rcases rgt with _ | _
   all_goals
    go_wp2_with fail
    go_roundw
    case rel=>exact hide (by simpa using R.out.1)
    case measure=>exact R.out.2
  by_cases c5:x=59
  ·have d59:(x==59)=true:=by simpa using c5
   go_wp2_with fail
   refine NX.out.mono ?_
   rintro e w2 ⟨v2,rfl,h2⟩
   have R2:=hide (HR.out.next h2)
   have CN:=HC.out.next HV.out HR.out h2
   have M2:=hide CN.1
   have V2:=hide CN.2
   obtain⟨z0,z1,z2,z3,z4,z5,z6⟩:=M2.out.ev.seven
   have fz:=M2.out.ev.frozen
   clear h2 CN
   have ho2:=M2.out.own
   rw [HP.out] at ho2
   have HO2:=hide ho2
   have hww:w.heap.size<=w2.heap.size:=by obtain⟨_,_,_,_,_,_,s⟩:=R2.out;exact s.kept.size
   have ES:=hide (show PA.Cj ⟨pv,it,0,rgt,fst,prs⟩ x=⟨pv,it,0,rgt,false,prs++ [-1]⟩ from by unfold PA.Cj;rw [if_neg (show¬x<48 by omega),if_neg (by simp;omega),if_neg (show¬60<=x by omega),if_pos c5])
   clear c3 c5 ho2
   go_wp2_with (first
    | (at_builtin;refine GD rfl (.tmp 100) (.tmp 101) 22 rfl w2.heap.size 3 i1 _ 8 Tryz.underlying22 hj hy0 hy1 hy2 rfl (.slice (some ⟨w2.heap.size,0,none⟩) 0 0) 0 [] rfl (JU _ rfl (Nat.le_refl _)) w2.heap.size Ap (p+1) cp (EO prs) rfl ((Seen.Bu HO2.out).alloc (Nat.le_refl _) _) (by simp [EO,Value.oneCell']) (by omega) (by omega) (by simp) ?_;intro v3 w3 hown3 hg3 hm3;have hs3:=hg3.size;simp only [World.size_alloc] at hs3)
    | (at_builtin;refine BM rfl (.tmp 102) (.tmp 103) 22 rfl w2.heap.size 3 i1 _ 8 Tryz.underlying22 hj hy0 hy1 hy2 rfl v3 (0+(p+1)) _ rfl hown3 _ _ _ rfl rfl rfl (by omega) (by omega) (by omega) ?_;intro v4 w4 kP hg4 hm4))
   have K4:Kept [] w2 w4:=(((Kept.refl [] w2).alloc _).grown hg3 (fun b hb=>.inr (by simp [Value.ownBlock] at hb;omega))).grown hg4 (fun b hb=>.inr (hown3.lt b hb).1)
   have R:=hide (END.out _ ES.out v2 v4 w4 (R2.out.over hBw (K4.toBelow (Nat.le_refl _) (by simp))) V2.out (M2.out.row hww K4 (by rw [List.length_append,HP.out];simpa [EO] using kP)))
   clear hown3 hg3 hm3 kP hg4 hm4 K4
   go_roundw
   case rel=>exact hide (by simpa using R.out.1)
   case measure=>exact R.out.2
  have d59:(x==59)=false:=by simpa using c5
  obtain⟨y,hy⟩: ∃y,prs[p]? =some y:=⟨_,List.getElem?_eq_getElem (by rw [HP.out];omega)⟩
  have hyb:=HOK.out.2.2.1 y (List.mem_of_getElem? hy)
  have ES:=hide (show PA.Cj ⟨pv,it,0,rgt,fst,prs⟩ x=⟨pv,it,0,rgt,false,prs.set p (PA.up y (x-48))⟩ from by
   unfold PA.Cj
   rw [if_neg (show¬x<48 by omega),if_neg (by simp;omega),if_neg (show¬60<=x by omega),if_neg c5]
   simp only [HP.out,Nat.add_sub_cancel]
   rw [List.getD_eq_getElem?_getD,hy]
   rfl)
  have HY:=hide hy
  obtain⟨y0,y1⟩:=hyb
  clear hy c5
  go_wp2_with fail
  refine NX.out.mono ?_
  rintro e w2 ⟨v2,rfl,h2⟩
  have R2:=hide (HR.out.next h2)
  have CN:=HC.out.next HV.out HR.out h2
  have M2:=hide CN.1
  have V2:=hide CN.2
  obtain⟨z0,z1,z2,z3,z4,z5,z6⟩:=M2.out.ev.seven
  have fz:=M2.out.ev.frozen
  clear h2 CN
  have ho2:=M2.out.own
  rw [HP.out] at ho2
  have HO2:=hide ho2
  have hww:w.heap.size<=w2.heap.size:=by obtain⟨_,_,_,_,_,_,s⟩:=R2.out;exact s.kept.size
  clear c3 ho2
  go_wp2_with (at_builtin;refine GD rfl (.tmp 22) (.tmp 23) 22 rfl w2.heap.size 3 i1 _ 8 Tryz.underlying22 hj hy0 hy1 hy2 rfl (.slice (some ⟨w2.heap.size,0,none⟩) 0 0) 0 [] rfl (JU _ rfl (Nat.le_refl _)) w2.heap.size Ap (p+1) cp (EO prs) rfl ((Seen.Bu HO2.out).alloc (Nat.le_refl _) _) (by simp [EO,Value.oneCell']) (by omega) (by omega) (by simp) ?_;intro v3 w3 hown3 hg3 hm3;simp only [Nat.zero_add,List.nil_append] at hown3;obtain⟨b3,c3',rfl,hb3⟩:=Q7 hown3;have hcl:w3.cell? ⟨b3,p,none⟩=some (.int .i64 y):=(by rw [hown3.cellAt p (by omega),EO,List.getElem?_map,HY.out];rfl);have hfr:=hown3.frozenAt p)
  have hu:min (max y 0*10+(x-48)) 65535=PA.up y (x-48):=by
   unfold PA.up
   by_cases hn:y<0
   ·rw [if_pos hn];split<;>omega
   ·rw [if_neg hn];split<;>omega
  have hu2:(if 65535<(if y<0 then 0 else y)*10+(x-48) then 65535 else (if y<0 then 0 else y)*10+(x-48))=PA.up y (x-48):=by
   unfold PA.up
   by_cases hn:y<0
   ·simp only [if_pos hn];split<;>split<;>omega
   ·simp only [if_neg hn];split<;>split<;>omega
  first | rw [hu] | rw [hu2]
  have K4:Kept [] w2 (w3.setCell ⟨b3,p,none⟩ (.int .i64 (PA.up y (x-48)))):=(((Kept.refl [] w2).alloc _).grown hg3 (fun b hb=>.inr (by simp [Value.ownBlock] at hb;omega))).setCell (p:=⟨b3,p,none⟩) (fun b hb=>.inr (by cases hb;omega)) _
  have R:=hide (END.out _ ES.out v2 _ _ (R2.out.over hBw (K4.toBelow (Nat.le_refl _) (by simp))) V2.out (M2.out.row hww K4 (by rw [List.length_set,HP.out];simpa [EO,List.map_set] using (hown3.stored p (.int .i64 (PA.up y (x-48)))).1)))
  clear hown3 hg3 hm3 K4 hu hu2
  go_roundw
  case rel=>exact hide (by simpa using R.out.1)
  case measure=>exact R.out.2
end Go.Proofs.YtoaabebgmdbjeaaGreatDoor
namespace Go.Proofs.YtoaabebgmdbjeaaGreatDoor
open Go Go.RowKit
structure TB (w:World) (g n c:Nat) (A:Option Addr) (v:Value) (k:Nat) (bb:List Int) (bv:Value) (wr:World):Prop where
 box:Box wr g 102 #[.slice A n c,.int .i64 (k:Nat),v]
 kept:Kept [some g] w wr
 own:wr.ownsRow w.heap.size 5 1 bv bb.length (u8s bb)
section
variable {w wr w3:World} {g n c k:Nat} {A:Option Addr} {v bv v3:Value} {bb b2:List Int}
theorem TB.drawn (h:TB w g n c A v k bb bv wr) (q:Nat):TB w g n c A v k bb bv (wr.drewN q):=⟨h.box,h.kept.drewN q,h.own⟩
theorem TB.at_ (h:TB w g n c A v k bb bv wr) (j:Nat):TB w g n c A v j bb bv (wr.setCell ⟨g,1,none⟩ (.int .i64 (j:Nat))):=
 ⟨by simpa using h.box.set 1 (.int .i64 (j:Nat)),h.kept.setCell (p:=⟨g,1,none⟩) (From.mem (by simp)) _,BF h.own (p:=⟨g,1,none⟩) (Aa h.own h.box (by decide)) _⟩
theorem TB.grown (h:TB w g n c A v k bb bv wr) (ho:w3.ownsRow w.heap.size 5 1 v3 b2.length (u8s b2)) (hg:wr.grownBy w3 bv.ownBlock):TB w g n c A v k b2 v3 w3:=
 ⟨Box.grown h.box hg (Aa h.own h.box (by decide)).symm,h.kept.grown hg (fun q hq=>.inr (h.own.lt q hq).1),ho⟩
theorem SB.tb {w0:World} {B:Nat} {M:List (PA.Ev × Value)} {x:Int} (h:SB w0 w B g n c A x v v M w) (hB:B<=g) (hBw:B<=w0.heap.size) (t:TB w g n c A v k bb bv wr):SB w0 w B g n c A (k:Int) v v M wr:=h.moved hB hBw t.kept t.box
end
theorem bF (told:Bool) (w0 w:World) (B g n c:Nat) (A:Option Addr) (b l:List Int) (es:List PA.Ev) (v:Value) (hB:B<=g) (hBw:B<=w0.heap.size) (hbn:b.length=n) (hA:Seen w0 B A n (u8s b)) (hb: ∀x∈b,0<=x/\x<256) (hn:n<=100000) (H:RAt w0 w B g n c A b l es v v w):
  Calls Tryz.prog 106 #[.pointer (some ⟨g,0,none⟩),.bool told] w fun e w'=> ∃v',e=.returned (.tuple #[])/\RAt w0 w B g n c A b (PA.tx told l [] 0).2 (es++(PA.tx told l [] 0).1) v v' w':=by
 obtain⟨i0,hi,hz0,hz1,hz2⟩:=info_parts Cq
 obtain⟨i1,hj,hy0,hy1,hy2⟩:=info_parts K5
 have HBB:=hide hb
 obtain⟨a0,M,ha0,hd0,hM,hln,hsb⟩:=H
 have hml:M.length<=1000000:=by have e:M.length=es.length:=(by rw [<- hM,List.length_map]);omega
 have hlow:=hsb.low
 have HA:=hide (fun wr (hk:Kept [some g] w wr)=>hA.below (hlow.trans (hk.toBelow (Nat.le_trans hBw hlow.size) (fun q hq=>by simp at hq;omega))))
 have HSW:=hide hsb
 have HM:=hide hM
 have hll:l.length+a0=n:=by have:=congrArg List.length hd0;rw [List.length_drop,hbn] at this;omega
 have T0:=hide (show TB w g n c A v a0 [] (.slice none 0 0) w from⟨hsb.box,Kept.refl _ _,World.ownsRow_nil _ _ _ _⟩)
 have X0:=hide (show PA.tx told (b.drop a0) [] 0=PA.tx told l [] 0 by rw [hd0])
 have hBsw:=hsb.size hBw
 clear hsb hM hA hb hd0 hlow
 go_enter Tryz.func106,Tryz.ntmps106
 go_wp2_with fail
 go_loopw [4,5] (fun bv kn wr=> ∃(k m:Nat) (bb:List Int),a0<=k/\k<=n/\kn=.int .i64 (m:Nat)/\m<=k/\bb.length<=k/\Hid (PA.tx told (b.drop k) bb m=PA.tx told l [] 0)/\Hid (TB w g n c A v k bb bv wr)) (fun _ _ wr=>n-(intOf ((wr.cell? ⟨g,1,none⟩).getD undef)).toNat)
 case atStart=>exact⟨a0,0, [],Nat.le_refl _,ha0,rfl,Nat.zero_le _,Nat.zero_le _,X0,T0⟩
 case round=>
  obtain⟨k,m,bb,hak,hkn,rfl,hmk,hbk,HX,HT⟩:=hrel
  clear X0 T0
  obtain⟨k0,k1,k2,f0,f1,f2⟩:=HT.out.box.three
  obtain⟨Ab,cb,rfl,_⟩:=C9 HT.out.own
  rcases hdl:b.drop k with _ | ⟨x,l2⟩
  ·skip
   obtain rfl:k=n:=by have:=congrArg List.length hdl;rw [List.length_drop,List.length_nil,hbn] at this;omega
   go_wp2_with fail
   go_quiet (fail)
   go_wp2_with fail
   go_end0
   have hx:=HX.out
   rw [hdl] at hx
   rw [<- hx]
   first | refine⟨v,rfl,?_⟩ | refine⟨rfl,v,?_⟩
   show RAt _ _ _ _ _ _ _ _ [] (es++ []) _ _ _
   rw [List.append_nil]
   exact⟨k,M,by omega,hdl,HM.out,by simp only [List.length_nil];omega,HSW.out.tb hB hBw (HT.out.drawn _)⟩
  ·skip
   have hkl:k<n:=by have:=congrArg List.length hdl;rw [List.length_drop,List.length_cons,hbn] at this;omega
   have pF:l2.length+k+1=n:=by have:=congrArg List.length hdl;rw [List.length_drop,List.length_cons,hbn] at this;omega
   have hbx:b[k]? =some x:=by have:=congrArg (·[0]?) hdl;simpa using this
   have Mr:b.drop (k+1)=l2:=by rw [<- List.drop_drop,hdl];rfl
   have hx:=HBB.out x (List.mem_of_getElem? hbx)
   obtain⟨ad,u,rfl,had,hu,hc⟩:=(HA.out _ HT.out.kept).at_ (k:=k) hkl
   rw [u8s,List.getElem?_map,hbx] at hu
   obtain rfl:=Option.some.inj hu
   have hi0:(0:Int)<=(k:Int):=by omega
   have hi1:(k:Int)<(n:Int):=by omega
   have oI:=hide hdl
   have HXX:=hide (show PA.tx told (x::l2) bb m=PA.tx told l [] 0 by rw [<- hdl];exact HX.out)
   have HD2:=hide Mr
   clear hu hbx hdl Mr HX
   obtain⟨K,hK⟩: ∃K,k+1=K:=⟨_,rfl⟩
   have T1:=hide (fun q=>hK▸(HT.out.drawn q).at_ (k+1))
   have hKi:(k:Int)+1=(K:Int):=by omega
   go_wp2_with fail
   go_quiet (fail)
   go_wp2_with fail
   go_quiet (fail)
   go_upto_region 5 with fail
   generalize hw1:(wr.drewN _).setCell ⟨g,1,none⟩ _=w1
   have T2:=hide (show TB w g n c (some ad) v K bb (.slice Ab bb.length cb) w1 from by rw [<- hw1];exact T1.out _)
   have HC2:=hide (fun j y=>(HA.out _ T2.out.kept).at_ (k:=j) y)
   clear k0 k1 k2 f0 f1 f2 hc hw1 T1 hi0 hi1 hKi
   obtain⟨k0,k1,k2,f0,f1,f2⟩:=T2.out.box.three
   have HD2:=hide (show b.drop K=l2 by rw [<- hK];exact HD2.out)
   have hKn:K<=n:=by omega
   have hl2:l2.length+K=n:=by omega
   have hmK:m<K:=by omega
   have hbK:bb.length<K:=by omega
   have hcut:b.drop k=x::l2:=oI.out
   have oI:=hide hcut
   have hsub:(K:Int)-1=(k:Nat):=by omega
   clear hcut pF
   by_cases h24:x=24
   ·subst h24
    go_wp2_with fail
    refine bodyPost_ret (results_none rfl _ _ _) rfl ?_
    have hx2:=HXX.out
    rw [show PA.tx told (24::l2) bb m=([],l2) from by rw [PA.tx,if_pos (by decide)]] at hx2
    rw [<- hx2]
    first | refine⟨v,rfl,?_⟩ | refine⟨rfl,v,?_⟩
    show RAt _ _ _ _ _ _ _ _ _ (es++ []) _ _ _
    rw [List.append_nil]
    exact⟨K,M,by omega,HD2.out,HM.out,by(try dsimp only);omega,HSW.out.tb hB hBw T2.out⟩
   by_cases h26:x=26
   ·subst h26
    go_wp2_with fail
    refine bodyPost_ret (results_none rfl _ _ _) rfl ?_
    have hx2:=HXX.out
    rw [show PA.tx told (26::l2) bb m=([],l2) from by rw [PA.tx,if_pos (by decide)]] at hx2
    rw [<- hx2]
    first | refine⟨v,rfl,?_⟩ | refine⟨rfl,v,?_⟩
    show RAt _ _ _ _ _ _ _ _ _ (es++ []) _ _ _
    rw [List.append_nil]
    exact⟨K,M,by omega,HD2.out,HM.out,by(try dsimp only);omega,HSW.out.tb hB hBw T2.out⟩
   have d24:(x==24)=false:=by simpa using h24
   have d26:(x==26)=false:=by simpa using h26
   have hn24: ¬(x=24\/x=26):=by omega
   clear h24 h26
   by_cases h27:x=27
   ·subst h27
    rcases l2 with _ | ⟨z,l3⟩
    ·skip
     have he1:((K:Int)==(n:Int))=true:=by simp at hl2⊢;omega
     go_wp2_with fail
     go_quiet (fail)
     go_wp2_with fail
     refine bodyPost_ret (results_none rfl _ _ _) rfl ?_
     have hx2:=HXX.out
     rw [show PA.tx told (27:: []) bb m=([], []) from by rw [PA.tx,if_neg (by decide),if_pos rfl,if_pos rfl]] at hx2
     rw [<- hx2]
     first | refine⟨v,rfl,?_⟩ | refine⟨rfl,v,?_⟩
     show RAt _ _ _ _ _ _ _ _ _ (es++ []) _ _ _
     rw [List.append_nil]
     exact⟨n,M,by omega,List.drop_of_length_le (by omega),HM.out,by(try dsimp only);simp only [List.length_nil] at*;omega,HSW.out.tb hB hBw ((T2.out.drawn _).at_ n)⟩
    ·skip
     have hk1:K<n:=by simp at hl2;omega
     have he1:((K:Int)==(n:Int))=false:=by simp;omega
     have hbz:b[K]? =some z:=by have:=congrArg (·[0]?) HD2.out;simpa using this
     have r9:b.drop (K+1)=l3:=by rw [<- List.drop_drop,HD2.out];rfl
     obtain⟨ad2,u,had2,_,hu,hc2⟩:=HC2.out K hk1
     cases had2
     rw [u8s,List.getElem?_map,hbz] at hu
     obtain rfl:=Option.some.inj hu
     have hi2:(0:Int)<=(K:Int):=by omega
     have hi3:(K:Int)<(n:Int):=by omega
     have HD3:=hide r9
     clear hu hbz r9
     by_cases h92:z=92
     ·subst h92
      go_wp2_with fail
      go_quiet (fail)
      go_wp2_with fail
      go_quiet (fail)
      go_upto_region 13 with fail
      have hTQ:=fun q=>(T2.out.drawn q).at_ (K+1)
      generalize hw2:(w1.drewN _).setCell ⟨g,1,none⟩ _=w2
      have TQ:=hide (show TB w g n c (some ad) v (K+1) bb (.slice Ab bb.length cb) w2 from by rw [<- hw2];exact hTQ _)
      clear hTQ hw2 k0 k1 k2 f0 f1 f2 T2 HC2
      clear hc2
      cases told with
      | false=>
       go_wp2_with fail
       refine bodyPost_ret (results_none rfl _ _ _) rfl ?_
       have hx2:=HXX.out
       rw [show PA.tx false (27::92::l3) bb m=([],l3) from by rw [PA.tx,if_neg (by decide),if_pos rfl,if_neg (by simp),if_pos (show(92::l3).head?=some 92 from rfl)];rfl] at hx2
       rw [<- hx2]
       first | refine⟨v,rfl,?_⟩ | refine⟨rfl,v,?_⟩
       show RAt _ _ _ _ _ _ _ _ _ (es++ []) _ _ _
       rw [List.append_nil]
       exact⟨K+1,M,by omega,HD3.out,HM.out,by(try dsimp only);simp only [List.length_cons] at*;omega,HSW.out.tb hB hBw TQ.out⟩
      | true=>
       by_cases hm4:m<=4096
       ·skip
        have UH:(m:Int)<=4096:=by omega
        have hTX:=hide (show PA.tx true (27::92::l3) bb m=([⟨5,0,0,0,0, [],bb⟩],l3) from by rw [PA.tx,if_neg (by decide),if_pos rfl,if_neg (by simp),if_pos (show(92::l3).head?=some 92 from rfl)];unfold PA.PE;rw [if_pos ⟨rfl,hm4⟩];(try rfl))
        go_upto_region 14 with fail
        have hsn:=Seen.Bu TQ.out.own
        have cv0:=FR (w:=w2.drew) (c:=cb) hsn.drew
        have cv1:=fun o=>FR (w:=(w2.alloc o).drew) (c:=cb) (hsn.alloc (Nat.le_refl _) o).drew
        have cv2:=FR (w:=w2) (c:=cb) hsn
        obtain⟨st,hst⟩: ∃s,strOfNums bb=s:=⟨_,rfl⟩
        rw [hst] at cv0 cv1 cv2
        have HST:=hide hst
        have HEC:=hide (show Eb ⟨5,0,0,0,0, [],bb⟩ (.slice none 0 0)= [.int .i64 5,.int .i32 0,.int .u8 0,.int .u8 0,.int .u8 0,.slice none 0 0,.string st] from by rw [<- HST.out];rfl)
        have HS1:=hide (HSW.out.tb hB hBw TQ.out)
        have hs1:=HS1.out.size hBw
        clear hsn hst UH
        obtain⟨q0,q1,q2,g0,g1,g2⟩:=TQ.out.box.three
        have qa: ∀o,(w2.alloc o).cell? ⟨g,2,none⟩=some v:=fun o=>(World.cell?_alloc_lt w2 o _ TQ.out.box.lt).trans q2
        go_region_law (refine(J9 (by rfl) (.tmp 112) (.tmp 116) 56 (by rfl) B 34 i0 _ 7 56 Tryz.underlying56 hi hz0 hz1 hz2 Cx (by omega) v M.length _ (by rfl) (HS1.out.alloc hBw _).drew.own #[.int .i64 5,.int .i32 0,.int .u8 0,.int .u8 0,.int .u8 0,.slice none 0 0,.string st] 34 w2.heap.size (by rfl) (Box.new w2 34 #[.int .i64 5,.int .i32 0,.int .u8 0,.int .u8 0,.int .u8 0,.slice none 0 0,.string st]).drew rfl (by simp [Value.oneCell']) (by omega) (by omega) (by simp;omega) ?_);intro v3 w3 hown3 hg3 hm3;obtain⟨A3,c3,rfl,_⟩:=Bb hown3;have bx3:=Box.grown (HS1.out.alloc hBw _).drew.box hg3 HS1.out.ne;obtain⟨j0,j1,j2,l0,l1,l2'⟩:=bx3.three)
        all_goals
         have R:=(HS1.out.alloc hBw _).drew.put (e:=⟨5,0,0,0,0, [],bb⟩) (u:=.slice none 0 0) hB hBw (by rw [HEC.out];exact hown3) hg3 hm3 (Cg.bare rfl)
         have HR3:=hide R
         clear hown3 hg3 hm3 bx3 j0 j1 j2 l0 l1 l2' R
         go_wp2_with fail
         refine bodyPost_ret (results_none rfl _ _ _) rfl ?_
         have hx2:=HXX.out
         rw [hTX.out] at hx2
         rw [<- hx2]
         have Gj:=(show RAt w0 w B g n c (some ad) b _ (es++ [⟨5,0,0,0,0, [],bb⟩]) v _ _ from⟨K+1,M++ [(⟨5,0,0,0,0, [],bb⟩,.slice none 0 0)],by omega,HD3.out,by rw [List.map_append,HM.out];rfl,by rw [List.length_append];(try dsimp only);simp only [List.length_cons,List.length_nil] at*;omega,HR3.out⟩)
         first | exact⟨_,rfl,Gj⟩ | exact⟨rfl,_,Gj⟩
       ·skip
        have UH: ¬(m:Int)<=4096:=by omega
        go_wp2_with fail
        refine bodyPost_ret (results_none rfl _ _ _) rfl ?_
        have hx2:=HXX.out
        rw [show PA.tx true (27::92::l3) bb m=([],l3) from by rw [PA.tx,if_neg (by decide),if_pos rfl,if_neg (by simp),if_pos (show(92::l3).head?=some 92 from rfl)];unfold PA.PE;rw [if_neg (fun h=>hm4 h.2)];(try rfl)] at hx2
        rw [<- hx2]
        first | refine⟨v,rfl,?_⟩ | refine⟨rfl,v,?_⟩
        show RAt _ _ _ _ _ _ _ _ _ (es++ []) _ _ _
        rw [List.append_nil]
        exact⟨K+1,M,by omega,HD3.out,HM.out,by(try dsimp only);simp only [List.length_cons] at*;omega,HSW.out.tb hB hBw TQ.out⟩
     have dz:(z !=92)=true:=by simpa using h92
     go_wp2_with fail
     go_quiet (fail)
     go_wp2_with fail
     go_quiet (fail)
     go_wp2_with fail
     refine bodyPost_ret (results_none rfl _ _ _) rfl ?_
     have hx2:=HXX.out
     rw [show PA.tx told (27::z::l3) bb m=([],27::z::l3) from by rw [PA.tx,if_neg (by decide),if_pos rfl,if_neg (by simp),if_neg (by simpa using h92)]] at hx2
     rw [<- hx2]
     first | refine⟨v,rfl,?_⟩ | refine⟨rfl,v,?_⟩
     show RAt _ _ _ _ _ _ _ _ _ (es++ []) _ _ _
     rw [List.append_nil]
     exact⟨k,M,by omega,oI.out,HM.out,by(try dsimp only);simp only [List.length_cons] at*;omega,HSW.out.tb hB hBw ((T2.out.drawn _).at_ k)⟩
   have d27:(x==27)=false:=by simpa using h27
   by_cases h7:x=7
   ·subst h7
    go_wp2_with fail
    go_quiet (fail)
    go_wp2_with fail
    go_quiet (fail)
    go_upto_region 13 with fail
    have hTQ:=fun q=>T2.out.drawn q
    generalize hw2:w1.drewN _=w2
    have TQ:=hide (show TB w g n c (some ad) v (K) bb (.slice Ab bb.length cb) w2 from by rw [<- hw2];exact hTQ _)
    clear hTQ hw2 k0 k1 k2 f0 f1 f2 T2 HC2
    cases told with
    | false=>
     go_wp2_with fail
     refine bodyPost_ret (results_none rfl _ _ _) rfl ?_
     have hx2:=HXX.out
     rw [show PA.tx false (7::l2) bb m=([],l2) from by rw [PA.tx,if_neg (by decide),if_neg (by decide),if_pos rfl];rfl] at hx2
     rw [<- hx2]
     first | refine⟨v,rfl,?_⟩ | refine⟨rfl,v,?_⟩
     show RAt _ _ _ _ _ _ _ _ _ (es++ []) _ _ _
     rw [List.append_nil]
     exact⟨K,M,by omega,HD2.out,HM.out,by(try dsimp only);omega,HSW.out.tb hB hBw TQ.out⟩
    | true=>
     by_cases hm4:m<=4096
     ·skip
      have UH:(m:Int)<=4096:=by omega
      have hTX:=hide (show PA.tx true (7::l2) bb m=([⟨5,0,0,0,0, [],bb⟩],l2) from by rw [PA.tx,if_neg (by decide),if_neg (by decide),if_pos rfl];unfold PA.PE;rw [if_pos ⟨rfl,hm4⟩];(try rfl))
      go_upto_region 14 with fail
      have hsn:=Seen.Bu TQ.out.own
      have cv0:=FR (w:=w2.drew) (c:=cb) hsn.drew
      have cv1:=fun o=>FR (w:=(w2.alloc o).drew) (c:=cb) (hsn.alloc (Nat.le_refl _) o).drew
      have cv2:=FR (w:=w2) (c:=cb) hsn
      obtain⟨st,hst⟩: ∃s,strOfNums bb=s:=⟨_,rfl⟩
      rw [hst] at cv0 cv1 cv2
      have HST:=hide hst
      have HEC:=hide (show Eb ⟨5,0,0,0,0, [],bb⟩ (.slice none 0 0)= [.int .i64 5,.int .i32 0,.int .u8 0,.int .u8 0,.int .u8 0,.slice none 0 0,.string st] from by rw [<- HST.out];rfl)
      have HS1:=hide (HSW.out.tb hB hBw TQ.out)
      have hs1:=HS1.out.size hBw
      clear hsn hst UH
      obtain⟨q0,q1,q2,g0,g1,g2⟩:=TQ.out.box.three
      have qa: ∀o,(w2.alloc o).cell? ⟨g,2,none⟩=some v:=fun o=>(World.cell?_alloc_lt w2 o _ TQ.out.box.lt).trans q2
      go_region_law (refine(J9 (by rfl) (.tmp 112) (.tmp 116) 56 (by rfl) B 34 i0 _ 7 56 Tryz.underlying56 hi hz0 hz1 hz2 Cx (by omega) v M.length _ (by rfl) (HS1.out.alloc hBw _).drew.own #[.int .i64 5,.int .i32 0,.int .u8 0,.int .u8 0,.int .u8 0,.slice none 0 0,.string st] 34 w2.heap.size (by rfl) (Box.new w2 34 #[.int .i64 5,.int .i32 0,.int .u8 0,.int .u8 0,.int .u8 0,.slice none 0 0,.string st]).drew rfl (by simp [Value.oneCell']) (by omega) (by omega) (by simp;omega) ?_);intro v3 w3 hown3 hg3 hm3;obtain⟨A3,c3,rfl,_⟩:=Bb hown3;have bx3:=Box.grown (HS1.out.alloc hBw _).drew.box hg3 HS1.out.ne;obtain⟨j0,j1,j2,l0,l1,l2'⟩:=bx3.three)
      all_goals
       have R:=(HS1.out.alloc hBw _).drew.put (e:=⟨5,0,0,0,0, [],bb⟩) (u:=.slice none 0 0) hB hBw (by rw [HEC.out];exact hown3) hg3 hm3 (Cg.bare rfl)
       have HR3:=hide R
       clear hown3 hg3 hm3 bx3 j0 j1 j2 l0 l1 l2' R
       go_wp2_with fail
       refine bodyPost_ret (results_none rfl _ _ _) rfl ?_
       have hx2:=HXX.out
       rw [hTX.out] at hx2
       rw [<- hx2]
       have Gj:=(show RAt w0 w B g n c (some ad) b _ (es++ [⟨5,0,0,0,0, [],bb⟩]) v _ _ from⟨K,M++ [(⟨5,0,0,0,0, [],bb⟩,.slice none 0 0)],by omega,HD2.out,by rw [List.map_append,HM.out];rfl,by rw [List.length_append];(try dsimp only);simp only [List.length_cons,List.length_nil] at*;omega,HR3.out⟩)
       first | exact⟨_,rfl,Gj⟩ | exact⟨rfl,_,Gj⟩
     ·skip
      have UH: ¬(m:Int)<=4096:=by omega
      go_wp2_with fail
      refine bodyPost_ret (results_none rfl _ _ _) rfl ?_
      have hx2:=HXX.out
      rw [show PA.tx true (7::l2) bb m=([],l2) from by rw [PA.tx,if_neg (by decide),if_neg (by decide),if_pos rfl];unfold PA.PE;rw [if_neg (fun h=>hm4 h.2)];(try rfl)] at hx2
      rw [<- hx2]
      first | refine⟨v,rfl,?_⟩ | refine⟨rfl,v,?_⟩
      show RAt _ _ _ _ _ _ _ _ _ (es++ []) _ _ _
      rw [List.append_nil]
      exact⟨K,M,by omega,HD2.out,HM.out,by(try dsimp only);omega,HSW.out.tb hB hBw TQ.out⟩
   have d7:(x==7)=false:=by simpa using h7
   by_cases h32:32<=x
   ·skip
    have hmi:IntKind.i64.wrap ((m:Int)+1)=((m+1:Nat):Int):=by rw [IntWalk.i64_in _ (by omega)];rfl
    by_cases hm4:m<4096
    ·skip
     have UH:(m:Int)+1<=4096:=by omega
     go_wp2_with fail
     go_quiet (fail)
     go_wp2_with fail
     go_quiet (fail)
     go_upto_region 18 with fail
     go_wp2_with (at_builtin;go_must (refine BM rfl (.tmp 127) (.tmp 129) 30 rfl w.heap.size 5 i1 _ 1 Tryz.underlying30 hj hy0 hy1 hy2 rfl _ bb.length _ rfl (T2.out.drawn _).own (.int .u8 x) _ _ rfl rfl rfl (by omega) (by omega) (by have:=T2.out.kept.size;first | exact this | (simp;exact this)) ?_);intro bv3 w3 hown3 hg3 hm3)
     have TT:=(T2.out.drawn _).grown (b2:=bb++ [x]) (by rw [List.length_append,bQ];exact hown3) hg3
     go_roundw
     case rel=>
      refine⟨K,m+1,bb++ [x],by omega,hKn,by go_num,by omega,by rw [List.length_append];simp;omega,hide ?_,hide TT⟩
      rw [HD2.out]
      have hx2:=HXX.out
      rw [PA.tx,if_neg hn24,if_neg h27,if_neg h7,if_pos h32,if_pos hm4] at hx2
      exact hx2
     case measure=>exact PU HT.out.box (k':=K) TT.box (by omega) hkl
    ·skip
     have UH: ¬(m:Int)+1<=4096:=by omega
     go_wp2_with fail
     go_quiet (fail)
     go_wp2_with fail
     go_quiet (fail)
     go_wp2_with fail
     go_roundw
     case rel=>
      refine⟨K,m+1,bb,by omega,hKn,by go_num,by omega,by omega,hide ?_,hide (T2.out.drawn _)⟩
      rw [HD2.out]
      have hx2:=HXX.out
      rw [PA.tx,if_neg hn24,if_neg h27,if_neg h7,if_pos h32,if_neg hm4] at hx2
      exact hx2
     case measure=>exact PU HT.out.box (k':=K) (T2.out.drawn _).box (by omega) hkl
   ·skip
    go_wp2_with fail
    go_quiet (fail)
    go_wp2_with fail
    go_quiet (fail)
    go_wp2_with fail
    go_roundw
    case rel=>
     refine⟨K,m,bb,by omega,hKn,rfl,by omega,by omega,hide ?_,hide (T2.out.drawn _)⟩
     rw [HD2.out]
     have hx2:=HXX.out
     rw [PA.tx,if_neg hn24,if_neg h27,if_neg h7,if_neg (by omega)] at hx2
     exact hx2
    case measure=>exact PU HT.out.box (k':=K) (T2.out.drawn _).box (by omega) hkl
end Go.Proofs.YtoaabebgmdbjeaaGreatDoor
namespace Go.Proofs.YtoaabebgmdbjeaaGreatDoor
open Go Go.RowKit
def oJ (w0 w:World) (B g n c:Nat) (A:Option Addr) (b:List Int) (E1:List PA.Ev) (L2:List Int) (v xc im mn:Value) (wr:World):Prop:=
 ∃(cc ii:Int) (m f:Nat) (l':List Int) (es':List PA.Ev) (v':Value),xc=.int .u8 cc/\im=.int .u8 ii/\mn=.int .i64 (m:Nat)/\32<=cc/\cc<127/\l'.length<f/\m+l'.length<=n/\es'++(PA.ei f ii m cc l').1=E1/\(PA.ei f ii m cc l').2=L2/\es'.length+1+3*l'.length<=3*n/\RAt w0 w B g n c A b l' es' v v' wr
theorem Q8 {w0 w1 w:World} {B g n c:Nat} {A:Option Addr} {b l:List Int} {es:List PA.Ev} {v1 v:Value} (h:RAt w0 w1 B g n c A b l es v1 v w) {x:Int} (hx:(PA.nx l).2.2=some x):(es++(PA.nx l).1).length+1+3*(PA.nx l).2.1.length<=3*n:=by
 have h1:=Mt l x hx
 obtain⟨_,_,_,_,_,h2,_⟩:=h
 rw [List.length_append]
 omega
theorem UJ (F:Nat) (w0 w:World) (B g n c:Nat) (A:Option Addr) (b l:List Int) (es:List PA.Ev) (v:Value) (hB:B<=g) (hBw:B<=w0.heap.size) (hbn:b.length=n) (hA:Seen w0 B A n (u8s b)) (hb: ∀x∈b,0<=x/\x<256) (hn:n<=100000) (hF:l.length<F) (H:RAt w0 w B g n c A b l es v v w):
  Calls Tryz.prog 60 #[.pointer (some ⟨g,0,none⟩)] w fun e w'=> ∃v',e=.returned (.tuple #[])/\RAt w0 w B g n c A b (PA.es_ F l).2 (es++(PA.es_ F l).1) v v' w':=by
 obtain⟨i0,hi,hz0,hz1,hz2⟩:=info_parts Cq
 obtain⟨E1,hE1⟩: ∃E,es++(PA.es_ F l).1=E:=⟨_,rfl⟩
 obtain⟨L2,hL2⟩: ∃E,(PA.es_ F l).2=E:=⟨_,rfl⟩
 rw [hE1,hL2]
 unfold PA.es_ at hE1 hL2
 have hll:l.length<=n:=by
  obtain⟨k,M,h1,h2,_⟩:=H
  rw [<- h2,List.length_drop]
  omega
 have hBL:=H.bytes hb
 have NXT:=hide (fun (l:List Int) es v w (H:RAt w0 w B g n c A b l es v v w)=>Q6 w0 w B g n c A b l es v hB hBw hbn hA hb hn H)
 have CSI:=hide (fun (l:List Int) es v w (hF:l.length<F) (H:RAt w0 w B g n c A b l es v v w)=>jl F w0 w B g n c A b l es v hB hBw hbn hA hb hn hF H)
 have TXT:=hide (fun told (l:List Int) es v w (H:RAt w0 w B g n c A b l es v v w)=>bF told w0 w B g n c A b l es v hB hBw hbn hA hb hn H)
 have HBB:=hide hb
 have NX:=NXT.out l es v w H
 have hsh:=PA.F7 l
 have hrg:=fun x=>Ms (l:=l) (x:=x) hBL
 have hbd:=fun x hx=>Q8 H (x:=x) hx
 obtain⟨N1,hN1⟩: ∃N,(PA.nx l).1=N:=⟨_,rfl⟩
 obtain⟨l2,hl2⟩: ∃N,(PA.nx l).2.1=N:=⟨_,rfl⟩
 clear hA hb H hBL
 rcases hx:(PA.nx l).2.2 with _ | x
 ·rw [hx] at hE1 hL2 NX
  simp only [hN1,hl2,Option.getD_none,Option.isSome_none] at hE1 hL2 NX
  have HE:=hide (And.intro hE1 hL2)
  have NX:=hide NX
  clear hE1 hL2 hx hN1 hl2 hsh hrg hbd
  go_enter Tryz.func60,Tryz.ntmps60
  go_wp2_with fail
  refine NX.out.mono ?_
  rintro e w2 ⟨v2,rfl,h2⟩
  have R2:=hide h2
  clear h2
  go_wp2_with fail
  refine bodyPost_ret (results_none rfl _ _ _) rfl ?_
  have hfin:=R2.out
  rw [HE.out.1,HE.out.2] at hfin
  first | exact⟨_,rfl,hfin⟩ | exact⟨rfl,_,hfin⟩
 have hs:=hsh x hx
 have hr:=hrg x hx
 have hb1:=hbd x hx
 rw [hx] at hE1 hL2 NX
 simp only [hN1,hl2,Option.getD_some,Option.isSome_some] at hE1 hL2 NX hs hb1
 have HE:=hide (And.intro hE1 hL2)
 have NX:=hide NX
 have hlF:l2.length<F:=by omega
 obtain⟨x0,x1⟩:=hr
 have HB1:=hide hb1
 have HLF:=hide hlF
 have hl2n:l2.length<=n:=by omega
 clear hE1 hL2 hx hN1 hl2 hsh hrg hbd hb1 hs hF hlF
 by_cases h91:x=91
 ·subst h91
  go_enter Tryz.func60,Tryz.ntmps60
  go_wp2_with fail
  refine NX.out.mono ?_
  rintro e w2 ⟨v2,rfl,h2⟩
  have R2:=hide h2
  clear h2
  go_wp2_with fail
  refine(CSI.out l2 _ _ _ HLF.out R2.out.here).mono ?_
  rintro e w3 ⟨v3,rfl,h3⟩
  have R3:=hide (R2.out.next h3)
  clear h3
  go_wp2_with fail
  refine bodyPost_ret (results_none rfl _ _ _) rfl ?_
  have hfin:=R3.out
  have hE:=HE.out
  rw [if_pos trivial] at hE
  rw [List.append_assoc,hE.1,hE.2] at hfin
  first | exact⟨_,rfl,hfin⟩ | exact⟨rfl,_,hfin⟩
 have d91:(x==91)=false:=by simpa using h91
 by_cases h93:x=93
 ·subst h93
  go_enter Tryz.func60,Tryz.ntmps60
  go_wp2_with fail
  refine NX.out.mono ?_
  rintro e w2 ⟨v2,rfl,h2⟩
  have R2:=hide h2
  clear h2
  go_wp2_with fail
  refine(TXT.out true l2 _ _ _ R2.out.here).mono ?_
  rintro e w3 ⟨v3,rfl,h3⟩
  have R3:=hide (R2.out.next h3)
  clear h3
  go_wp2_with fail
  refine bodyPost_ret (results_none rfl _ _ _) rfl ?_
  have hfin:=R3.out
  have hE:=HE.out
  rw [if_neg (by decide),if_pos trivial] at hE
  rw [List.append_assoc,hE.1,hE.2] at hfin
  first | exact⟨_,rfl,hfin⟩ | exact⟨rfl,_,hfin⟩
 have d93:(x==93)=false:=by simpa using h93
 by_cases h80:x=80
 ·subst h80
  go_enter Tryz.func60,Tryz.ntmps60
  go_wp2_with fail
  refine NX.out.mono ?_
  rintro e w2 ⟨v2,rfl,h2⟩
  have R2:=hide h2
  clear h2
  go_wp2_with fail
  refine(TXT.out false l2 _ _ _ R2.out.here).mono ?_
  rintro e w3 ⟨v3,rfl,h3⟩
  have R3:=hide (R2.out.next h3)
  clear h3
  go_wp2_with fail
  refine bodyPost_ret (results_none rfl _ _ _) rfl ?_
  have hfin:=R3.out
  have hE:=HE.out
  rw [if_neg (by decide),if_neg (by decide),if_pos (by decide)] at hE
  rw [List.append_assoc,hE.1,hE.2] at hfin
  first | exact⟨_,rfl,hfin⟩ | exact⟨rfl,_,hfin⟩
 have d80:(x==80)=false:=by simpa using h80
 by_cases h88:x=88
 ·subst h88
  go_enter Tryz.func60,Tryz.ntmps60
  go_wp2_with fail
  refine NX.out.mono ?_
  rintro e w2 ⟨v2,rfl,h2⟩
  have R2:=hide h2
  clear h2
  go_wp2_with fail
  refine(TXT.out false l2 _ _ _ R2.out.here).mono ?_
  rintro e w3 ⟨v3,rfl,h3⟩
  have R3:=hide (R2.out.next h3)
  clear h3
  go_wp2_with fail
  refine bodyPost_ret (results_none rfl _ _ _) rfl ?_
  have hfin:=R3.out
  have hE:=HE.out
  rw [if_neg (by decide),if_neg (by decide),if_pos (by decide)] at hE
  rw [List.append_assoc,hE.1,hE.2] at hfin
  first | exact⟨_,rfl,hfin⟩ | exact⟨rfl,_,hfin⟩
 have d88:(x==88)=false:=by simpa using h88
 by_cases h94:x=94
 ·subst h94
  go_enter Tryz.func60,Tryz.ntmps60
  go_wp2_with fail
  refine NX.out.mono ?_
  rintro e w2 ⟨v2,rfl,h2⟩
  have R2:=hide h2
  clear h2
  go_wp2_with fail
  refine(TXT.out false l2 _ _ _ R2.out.here).mono ?_
  rintro e w3 ⟨v3,rfl,h3⟩
  have R3:=hide (R2.out.next h3)
  clear h3
  go_wp2_with fail
  refine bodyPost_ret (results_none rfl _ _ _) rfl ?_
  have hfin:=R3.out
  have hE:=HE.out
  rw [if_neg (by decide),if_neg (by decide),if_pos (by decide)] at hE
  rw [List.append_assoc,hE.1,hE.2] at hfin
  first | exact⟨_,rfl,hfin⟩ | exact⟨rfl,_,hfin⟩
 have d94:(x==94)=false:=by simpa using h94
 by_cases h95:x=95
 ·subst h95
  go_enter Tryz.func60,Tryz.ntmps60
  go_wp2_with fail
  refine NX.out.mono ?_
  rintro e w2 ⟨v2,rfl,h2⟩
  have R2:=hide h2
  clear h2
  go_wp2_with fail
  refine(TXT.out false l2 _ _ _ R2.out.here).mono ?_
  rintro e w3 ⟨v3,rfl,h3⟩
  have R3:=hide (R2.out.next h3)
  clear h3
  go_wp2_with fail
  refine bodyPost_ret (results_none rfl _ _ _) rfl ?_
  have hfin:=R3.out
  have hE:=HE.out
  rw [if_neg (by decide),if_neg (by decide),if_pos (by decide)] at hE
  rw [List.append_assoc,hE.1,hE.2] at hfin
  first | exact⟨_,rfl,hfin⟩ | exact⟨rfl,_,hfin⟩
 have d95:(x==95)=false:=by simpa using h95
 have hE:=HE.out
 rw [if_neg h91,if_neg h93,if_neg (by omega), <- List.append_assoc] at hE
 have HE:=hide hE
 have E0:=hide (fun (v2:Value) (w2:World) (h:RAt w0 w B g n c A b l2 (es++N1) v v2 w2)=>(show oJ w0 w B g n c A b E1 L2 v (.int .u8 x) (.int .u8 0) (.int .i64 0) w2 from⟨x,0,0,F,l2,es++N1,v2,rfl,rfl,rfl,x0,x1,HLF.out,by omega,HE.out.1,HE.out.2,HB1.out,h⟩))
 clear hE h91 h93 h80 h88 h94 h95
 go_enter Tryz.func60,Tryz.ntmps60
 go_wp2_with fail
 refine NX.out.mono ?_
 rintro e w2 ⟨v2,rfl,h2⟩
 have R2:=hide h2
 clear h2
 go_wp2_with fail
 go_loopw [2,4,5] (fun xc im mn wr=>Hid (oJ w0 w B g n c A b E1 L2 v xc im mn wr)) (fun _ _ _ wr=>n-(intOf ((wr.cell? ⟨g,1,none⟩).getD undef)).toNat)
 case atStart=>exact hide (E0.out v2 w2 R2.out)
 case round=>
  obtain⟨cc,ii,m,f,l',es',v',rfl,rfl,rfl,c0,c1,hlf,hml,he1,he2,hbn1,hR⟩:=hrel.out
  clear hrel E0 NX R2 HE HB1 HLF
  obtain⟨f',rfl⟩: ∃f',f=f'+1:=⟨f-1,by omega⟩
  have HR:=hide hR
  unfold PA.ei at he1 he2
  by_cases h48:cc<48
  ·skip
   rw [if_pos h48] at he1 he2
   have NX:=NXT.out l' es' v' wr hR.here
   have hsh:=PA.F7 l'
   have hrg:=fun x=>Ms (l:=l') (x:=x) (hR.bytes HBB.out)
   have hbd:=fun x hx=>Q8 hR (x:=x) hx
   obtain⟨N2,hN2⟩: ∃N,(PA.nx l').1=N:=⟨_,rfl⟩
   obtain⟨l3,hl3⟩: ∃N,(PA.nx l').2.1=N:=⟨_,rfl⟩
   clear hR
   rcases hx:(PA.nx l').2.2 with _ | d
   ·rw [hx] at he1 he2 NX
    simp only [hN2,hl3,Option.getD_none,Option.isSome_none] at he1 he2 NX
    have HE:=hide (And.intro he1 he2)
    have NX:=hide NX
    clear he1 he2 hx hN2 hl3 hsh hrg hbd
    go_wp2_with fail
    refine NX.out.mono ?_
    rintro e w3 ⟨v3,rfl,h3⟩
    have R3:=hide (HR.out.next h3)
    clear h3
    go_wp2_with fail
    refine bodyPost_ret (results_none rfl _ _ _) rfl ?_
    have hfin:=R3.out
    rw [HE.out.1,HE.out.2] at hfin
    first | exact⟨_,rfl,hfin⟩ | exact⟨rfl,_,hfin⟩
   have hs:=hsh d hx
   have hr:=hrg d hx
   have hb1:=hbd d hx
   rw [hx] at he1 he2 NX
   simp only [hN2,hl3,Option.getD_some,Option.isSome_some] at he1 he2 NX hs hb1
   rw [<- List.append_assoc] at he1
   have HE:=hide (And.intro he1 he2)
   have NX:=hide NX
   obtain⟨d0,d1⟩:=hr
   clear he1 he2 hx hN2 hl3 hsh hrg hbd
   have hmi:IntKind.i64.wrap ((m:Int)+1)=((m+1:Nat):Int):=by rw [IntWalk.i64_in _ (by omega)];rfl
   go_wp2_with fail
   refine NX.out.mono ?_
   rintro e w3 ⟨v3,rfl,h3⟩
   have R3:=hide (HR.out.next h3)
   have RR:=hide (show oJ w0 w B g n c A b E1 L2 v (.int .u8 d) (.int .u8 cc) (.int .i64 ((m+1:Nat):Int)) w3 from⟨d,cc,m+1,f',l3,es'++N2,v3,rfl,rfl,rfl,d0,d1,by omega,by omega,HE.out.1,HE.out.2,hb1,R3.out⟩)
   have hless:=HR.out.less R3.out hbn hs
   clear h3
   go_wp2_with fail
   go_roundw
   case rel=>exact hide (by simpa using RR.out)
   case measure=>exact hless
  ·skip
   rw [if_neg h48] at he1 he2
   simp only [] at he1 he2
   subst he2
   by_cases hm2:m<2
   ·skip
    rw [if_pos hm2] at he1
    have rz:(m:Int)<2:=by omega
    obtain⟨k,M,hkn,hdl,hM,hln,hsb⟩:=hR
    have HS:=hide hsb
    obtain⟨s0,s1,s2,t0,t1,t2⟩:=hsb.box.three
    have hsw:=hsb.size hBw
    have hMl:M.length<=1000000:=by have e:M.length=es'.length:=(by rw [<- hM,List.length_map]);omega
    have HM:=hide hM
    have HE:=hide he1
    clear hsb hM he1
    go_wp2_with (at_builtin;go_must (refine CX rfl (.tmp 47) (.tmp 51) 56 rfl B 34 i0 _ 7 56 Tryz.underlying56 hi hz0 hz1 hz2 Cx (by omega) v' M.length _ rfl HS.out.own _ _ _ rfl rfl rfl (by intro u hu;simp at hu;(repeat' (first | (rcases hu with rfl | hu) | subst hu))<;>rfl) (by omega) (by omega) (by first | omega | (simp;omega)) ?_);intro v3 w3 hown3 hg3 hm3;obtain⟨A3,c3,rfl,_⟩:=Bb hown3;have bx3:=Box.grown HS.out.box hg3 HS.out.ne;obtain⟨j0,j1,j2,l0,l1,l2'⟩:=bx3.three)
    have R:=hide (HS.out.put (e:=⟨3,0,0,ii,cc, [], []⟩) (u:=.slice none 0 0) hB hBw hown3 hg3 hm3 (Cg.bare rfl))
    clear hown3 hg3 hm3 bx3 j0 j1 j2 l0 l1 l2'
    go_end0
    have Gj:=(show RAt w0 w B g n c A b l' (es'++ [⟨3,0,0,ii,cc, [], []⟩]) v _ _ from⟨k,M++ [(⟨3,0,0,ii,cc, [], []⟩,.slice none 0 0)],hkn,hdl,by rw [List.map_append,HM.out];rfl,by rw [List.length_append];exact hbn1,R.out⟩)
    rw [HE.out] at Gj
    first | exact⟨_,rfl,Gj⟩ | exact⟨rfl,_,Gj⟩
   ·skip
    rw [if_neg hm2,List.append_nil] at he1
    subst he1
    have rz: ¬(m:Int)<2:=by omega
    clear hR
    go_wp2_with fail
    go_end0
    first | exact⟨_,rfl,HR.out⟩ | exact⟨rfl,_,HR.out⟩
end Go.Proofs.YtoaabebgmdbjeaaGreatDoor
namespace Go.Proofs.YtoaabebgmdbjeaaGreatDoor
open Go.RowKit
theorem bG (r:Int) (w:World):Calls Tryz.prog 206 #[.int .i32 r] w fun e w'=>e=.returned (.int .u8 (U.tl r))/\w=w':=by
 have e1:=Xx 6 (by omega) r
 have e2:=bP 6 128 (r%64) (by omega) (by omega) (by omega) (by omega) (by omega)
 have e3:U.tl r=128+r%64:=rfl
 have e4:r%64%256=r%64:=by omega
 have E:=hide (And.intro e1 (And.intro e2 (And.intro e3 e4)))
 clear e1 e2 e3 e4
 go_enter Tryz.func206,Tryz.ntmps206
 go_wp2
 go_ret
 obtain⟨e1,e2,e3,e4⟩:=E.out
 refine⟨Sz ?_,rfl⟩
 simp at e1
 rw [e3]
 show bits .or .u8 128 (bits .and .i32 r 63%256)=_
 rw [e1,e4,e2]
end Go.Proofs.YtoaabebgmdbjeaaGreatDoor
