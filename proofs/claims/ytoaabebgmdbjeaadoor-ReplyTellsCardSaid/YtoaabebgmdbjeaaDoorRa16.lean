/- A part of the proof: OpenMany, OpenKeep, OpenKeepN. -/
import Derived.Test.YtoaabebgmdbjeaaDoorRa01
import Derived.Deep.Slices
import Derived.Deep.Fields
import Derived.ChangeSame
set_option maxRecDepth 100000
set_option maxHeartbeats 16000000
set_option linter.unusedVariables false
namespace Go.Proofs.YtoaabebgmdbjeaaDoor
open Go Go.Joins Go.ChangeShapes Go.WideShapes Go.RowKit Go.Deep
section
variable {H:Type} {enc:TypeId × Value->H} {P:Program} {w:World} {base:Nat} {spare:Nat->Bool} {held:Bool}
theorem Lv {r:Reach} {b0:Nat} {t:TypeId} {fs:Array Field} {v:Value} {d:DataW H} {p:List MemPlace} (hs:P.underlying t=some (.struct fs)) (hone:oneCellFields P fs=true) (hC:P.cellsOf t=fs.size)
  (hv:Value.okWide P w r b0 t v) (h:DataW.Trod enc P w base spare held t v d p):
  ∃(cs:Array Value) (n:Nat),v=.agg cs/\cs.size=fs.size/\ ∀(j:Nat) (f:Field),fs[j]? =some f-> ∃(u:Value) (y:DataW H × List MemPlace),cs[j]? =some u/\DataW.trod enc P w base spare held n f.type [u] =some y:=by
 obtain⟨cs,rfl,hsz⟩:=okWide_struct hs hv
 have hsz':cs.size=fs.size:=hsz.trans hC
 obtain⟨fuel,hf⟩:=h
 obtain⟨xs,n,_,hx,_,hlen,hg⟩:=DataW.trod_struct hs hf
 refine⟨cs,n,rfl,hsz',fun j f hj=>?_⟩
 obtain⟨o,k⟩:=hone_of hone j f hj
 have hjl:j<fs.size:=(Array.getElem?_eq_some_iff.1 hj).1
 have hg':=hg j f hj
 rw [o,k] at hg'
 have hl:j<cs.toList.length:=by simpa using hsz'▸hjl
 have hd:((Value.agg cs).cells.toList.drop j).take 1= [cs.toList[j]] :=by
  show(cs.toList.drop j).take 1=_
  rw [List.drop_eq_getElem_cons hl]
  rfl
 rw [hd] at hg'
 have hxl:j<xs.length:=by omega
 refine⟨cs.toList[j],xs[j],?_,?_⟩
 ·rw [<- Array.getElem?_toList]
  exact List.getElem?_eq_getElem hl
 ·rw [hg']
  exact List.getElem?_eq_getElem hxl
theorem CW {k:IntKind} {t e:TypeId} {n:Nat} {u:Value} {y:DataW H × List MemPlace} (ht:P.underlying t=some (.slice e)) (he:P.underlying e=some (.int k)) (hc:P.cellsOf e=1) (h:DataW.trod enc P w 0 (fun _=>true) held n t [u] =some y):
  ∃A m c l,u=.slice A m c/\Arg k w A m c l:=by
 rcases open_ints ht he hc h with ⟨hcs,_⟩ | ⟨x,l,c,zs,hcs,_,hl,hm,hz,_,hcell,hwz⟩
 ·simp only [List.cons.injEq,and_true] at hcs
  exact⟨none,0,0, [],hcs,Arg.none _ _⟩
 ·simp only [List.cons.injEq,and_true] at hcs
  exact⟨some x,l,c,zs.take l,hcs,Arg.some_ hl hm (by simpa using hz) hcell hwz⟩
end
end Go.Proofs.YtoaabebgmdbjeaaDoor
namespace Go.Proofs.YtoaabebgmdbjeaaDoor
open Go Go.Joins Go.ChangeShapes Go.WideShapes Go.RowKit Go.Deep
section
variable {H:Type} {enc:TypeId × Value->H} {w:World} {held:Bool}
theorem Ak {P:Program} {k:IntKind} {t:TypeId} {n:Nat} {u:Value} {y:DataW H × List MemPlace} (he:P.underlying t=some (.int k)) (h:DataW.trod enc P w 0 (fun _=>true) held n t [u] =some y):
  ∃z,u=.int k z/\(Lit.int k z).wf=true:=by
 obtain⟨z,hc,_,hw⟩:=DataW.trod_int he h
 simp only [List.cons.injEq,and_true] at hc
 exact⟨z,hc,by first | exact hw | exact hw.1 | simpa using hw⟩
end
end Go.Proofs.YtoaabebgmdbjeaaDoor
namespace Go.Proofs.YtoaabebgmdbjeaaDoor
open Go Go.Joins Go.ChangeShapes Go.WideShapes Go.RowKit Go.Deep
section
variable {H:Type} {enc:TypeId × Value->H} {w:World} {held:Bool}
theorem KX {P:Program} {r:Reach} {b0:Nat} {t:TypeId} {fs:Array Field} {v:Value} {d:DataW H} {p:List MemPlace} (hs:P.underlying t=some (.struct fs)) (hv:Value.okWide P w r b0 t v) (h:DataW.Trod enc P w 0 (fun _=>true) held t v d p):
  ∃(cs:Array Value) (n:Nat),v=.agg cs/\cs.size=P.cellsOf t/\ ∀(j:Nat) (f:Field),fs[j]? =some f-> ∀k,P.cellsOf f.type=k-> ∃(y:DataW H × List MemPlace),DataW.trod enc P w 0 (fun _=>true) held n f.type ((cs.toList.drop f.offset).take k)=some y:=by
 obtain⟨cs,rfl,hsz⟩:=okWide_struct hs hv
 obtain⟨fuel,hf⟩:=h
 obtain⟨xs,n,_,hx,_,hlen,hg⟩:=DataW.trod_struct hs hf
 refine⟨cs,n,rfl,hsz,fun j f hj k hk=>?_⟩
 subst hk
 have hjl:j<fs.size:=(Array.getElem?_eq_some_iff.1 hj).1
 have hxl:j<xs.length:=by omega
 exact⟨xs[j],(hg j f hj).trans (List.getElem?_eq_getElem hxl)⟩
theorem Js {P:Program} {t:TypeId} {fs:Array Field} {fuel:Nat} {cs:List Value} {x:DataW H × List MemPlace} (hs:P.underlying t=some (.struct fs)) (h:DataW.trod enc P w 0 (fun _=>true) held fuel t cs=some x):
  ∃(n:Nat),cs.length=P.cellsOf t/\ ∀(j:Nat) (f:Field),fs[j]? =some f-> ∀k,P.cellsOf f.type=k-> ∃(y:DataW H × List MemPlace),DataW.trod enc P w 0 (fun _=>true) held n f.type ((cs.drop f.offset).take k)=some y:=by
 obtain⟨xs,n,_,hx,hl,hlen,hg⟩:=DataW.trod_struct hs h
 refine⟨n,hl,fun j f hj k hk=>?_⟩
 subst hk
 have hjl:j<fs.size:=(Array.getElem?_eq_some_iff.1 hj).1
 have hxl:j<xs.length:=by omega
 exact⟨xs[j],(hg j f hj).trans (List.getElem?_eq_getElem hxl)⟩
theorem Fz {r:Reach} {b0:Nat} {v:Value} {d:DataW H} {p:List MemPlace} (hv:Value.okWide Tryd.prog w r b0 46 v) (h:DataW.Trod enc Tryd.prog w 0 (fun _=>true) held 46 v d p):
  ∃(rw cl:Int) (Ap:Option Addr) (np cp:Nat) (lp:List Int) (At:Option Addr) (nt ct:Nat) (lt:List Int) (a b c d e p0 p1 p2 u:Int),
   v=.agg #[.int .i64 rw,.int .i64 cl,.slice Ap np cp,.slice At nt ct,.int .i64 a,.int .i64 b,.int .i64 c,.int .i64 d,.int .i64 e,.int .i64 p0,.int .i64 p1,.int .i64 p2,.int .u64 u] /\
   (Lit.int .i64 rw).wf=true/\(Lit.int .i64 cl).wf=true/\Arg .i64 w Ap np cp lp/\Arg .i64 w At nt ct lt/\(Lit.int .i64 a).wf=true/\(Lit.int .i64 b).wf=true/\(Lit.int .i64 c).wf=true/\(Lit.int .i64 d).wf=true/\(Lit.int .i64 e).wf=true/\
   (Lit.int .i64 p0).wf=true/\(Lit.int .i64 p1).wf=true/\(Lit.int .i64 p2).wf=true/\(Lit.int .u64 u).wf=true:=by
 obtain⟨⟨l⟩,n,rfl,hsz,hf⟩:=KX Tryd.underlying46 hv h
 have hl:l.length=13:=hsz.trans (by kernel_rfl)
 obtain⟨k0,k1,k2,k3,k4,k5,k6,k7,k8,k9,k10,k11,k12,rfl⟩: ∃k0 k1 k2 k3 k4 k5 k6 k7 k8 k9 k10 k11 k12,l= [k0,k1,k2,k3,k4,k5,k6,k7,k8,k9,k10,k11,k12] :=by
  match l,hl with
  | [k0,k1,k2,k3,k4,k5,k6,k7,k8,k9,k10,k11,k12],_=>exact⟨k0,k1,k2,k3,k4,k5,k6,k7,k8,k9,k10,k11,k12,rfl⟩
 obtain⟨yg,tg⟩: ∃y,DataW.trod enc Tryd.prog w 0 (fun _=>true) held n 43 [k0,k1,k2,k3] =some y:=hf 0 _ rfl 4 (by kernel_rfl)
 obtain⟨y1,t1⟩: ∃y,DataW.trod enc Tryd.prog w 0 (fun _=>true) held n 3 [k4] =some y:=hf 1 _ rfl 1 (by kernel_rfl)
 obtain⟨y2,t2⟩: ∃y,DataW.trod enc Tryd.prog w 0 (fun _=>true) held n 3 [k5] =some y:=hf 2 _ rfl 1 (by kernel_rfl)
 obtain⟨y3,t3⟩: ∃y,DataW.trod enc Tryd.prog w 0 (fun _=>true) held n 3 [k6] =some y:=hf 3 _ rfl 1 (by kernel_rfl)
 obtain⟨y4,t4⟩: ∃y,DataW.trod enc Tryd.prog w 0 (fun _=>true) held n 3 [k7] =some y:=hf 4 _ rfl 1 (by kernel_rfl)
 obtain⟨y5,t5⟩: ∃y,DataW.trod enc Tryd.prog w 0 (fun _=>true) held n 3 [k8] =some y:=hf 5 _ rfl 1 (by kernel_rfl)
 obtain⟨yp,tp⟩: ∃y,DataW.trod enc Tryd.prog w 0 (fun _=>true) held n 44 [k9,k10,k11] =some y:=hf 6 _ rfl 3 (by kernel_rfl)
 obtain⟨y7,t7⟩: ∃y,DataW.trod enc Tryd.prog w 0 (fun _=>true) held n 27 [k12] =some y:=hf 7 _ rfl 1 (by kernel_rfl)
 obtain⟨ng,_,hg⟩:=Js Tryd.underlying43 tg
 obtain⟨nq,_,hp⟩:=Js Tryd.underlying44 tp
 obtain⟨g0,s0⟩: ∃y,DataW.trod enc Tryd.prog w 0 (fun _=>true) held ng 3 [k0] =some y:=hg 0 _ rfl 1 (by kernel_rfl)
 obtain⟨g1,s1⟩: ∃y,DataW.trod enc Tryd.prog w 0 (fun _=>true) held ng 3 [k1] =some y:=hg 1 _ rfl 1 (by kernel_rfl)
 obtain⟨g2,s2⟩: ∃y,DataW.trod enc Tryd.prog w 0 (fun _=>true) held ng 36 [k2] =some y:=hg 2 _ rfl 1 (by kernel_rfl)
 obtain⟨g3,s3⟩: ∃y,DataW.trod enc Tryd.prog w 0 (fun _=>true) held ng 36 [k3] =some y:=hg 3 _ rfl 1 (by kernel_rfl)
 obtain⟨q0,r0⟩: ∃y,DataW.trod enc Tryd.prog w 0 (fun _=>true) held nq 3 [k9] =some y:=hp 0 _ rfl 1 (by kernel_rfl)
 obtain⟨q1,r1⟩: ∃y,DataW.trod enc Tryd.prog w 0 (fun _=>true) held nq 3 [k10] =some y:=hp 1 _ rfl 1 (by kernel_rfl)
 obtain⟨q2,r2⟩: ∃y,DataW.trod enc Tryd.prog w 0 (fun _=>true) held nq 3 [k11] =some y:=hp 2 _ rfl 1 (by kernel_rfl)
 obtain⟨rw,rfl,w0⟩:=Ak Tryd.underlying3 s0
 obtain⟨cl,rfl,w1⟩:=Ak Tryd.underlying3 s1
 obtain⟨Ap,np,cp,lp,rfl,ap⟩:=CW (k:=.i64) Tryd.underlying36 Tryd.underlying3 (by kernel_rfl) s2
 obtain⟨At,nt,ct,lt,rfl,at_⟩:=CW (k:=.i64) Tryd.underlying36 Tryd.underlying3 (by kernel_rfl) s3
 obtain⟨a,rfl,wa⟩:=Ak Tryd.underlying3 t1
 obtain⟨b,rfl,wb⟩:=Ak Tryd.underlying3 t2
 obtain⟨c,rfl,wc⟩:=Ak Tryd.underlying3 t3
 obtain⟨d',rfl,wd⟩:=Ak Tryd.underlying3 t4
 obtain⟨e,rfl,we⟩:=Ak Tryd.underlying3 t5
 obtain⟨p0,rfl,wp0⟩:=Ak Tryd.underlying3 r0
 obtain⟨p1,rfl,wp1⟩:=Ak Tryd.underlying3 r1
 obtain⟨p2,rfl,wp2⟩:=Ak Tryd.underlying3 r2
 obtain⟨u,rfl,wu⟩:=Ak Tryd.underlying27 t7
 exact⟨rw,cl,Ap,np,cp,lp,At,nt,ct,lt,a,b,c,d',e,p0,p1,p2,u,rfl,w0,w1,ap,at_,wa,wb,wc,wd,we,wp0,wp1,wp2,wu⟩
end
end Go.Proofs.YtoaabebgmdbjeaaDoor
namespace Go.Proofs.YtoaabebgmdbjeaaDoor
open Go Go.Joins Go.ChangeShapes Go.WideShapes Go.RowKit Go.Deep
section
variable {H:Type} {enc:TypeId × Value->H} {w:World} {held:Bool}
theorem Da {P:Program} {k:IntKind} {t:TypeId} {n:Nat} {u:Value} {y:DataW H × List MemPlace} (he:P.underlying t=some (.int k)) (h:DataW.trod enc P w 0 (fun _=>true) held n t [u] =some y):
  ∃z,u=.int k z/\(Lit.int k z).wf=true:=by
 obtain⟨z,hc,_,hw⟩:=DataW.trod_int he h
 simp only [List.cons.injEq,and_true] at hc
 exact⟨z,hc,by first | exact hw | exact hw.1 | simpa using hw⟩
theorem Lx {r:Reach} {b0:Nat} {v:Value} {d:DataW H} {p:List MemPlace} (hv:Value.okWide Tryd.prog w r b0 48 v) (h:DataW.Trod enc Tryd.prog w 0 (fun _=>true) held 48 v d p):
  ∃(kd rn fn:Int) (Ap:Option Addr) (np cp:Nat) (lp:List Int) (At:Option Addr) (nt ct:Nat) (lt:List Int),v=.agg #[.int .i64 kd,.int .i64 rn,.int .i64 fn,.slice Ap np cp,.slice At nt ct] /\(Lit.int .i64 kd).wf=true/\(Lit.int .i64 rn).wf=true/\(Lit.int .i64 fn).wf=true/\Arg .i64 w Ap np cp lp/\Arg .u8 w At nt ct lt:=by
 obtain⟨cs,n,rfl,hsz,hf⟩:=Lv Tryd.underlying48 (by kernel_rfl) (by kernel_rfl) hv h
 obtain⟨u0,y0,h0,t0⟩:=hf 0 _ rfl
 obtain⟨u1,y1,h1,t1⟩:=hf 1 _ rfl
 obtain⟨u2,y2,h2,t2⟩:=hf 2 _ rfl
 obtain⟨u3,y3,h3,t3⟩:=hf 3 _ rfl
 obtain⟨u4,y4,h4,t4⟩:=hf 4 _ rfl
 obtain⟨kd,rfl,w0⟩:=Da Tryd.underlying3 t0
 obtain⟨rn,rfl,w1⟩:=Da Tryd.underlying3 t1
 obtain⟨fn,rfl,w2⟩:=Da Tryd.underlying3 t2
 obtain⟨Ap,np,cp,lp,rfl,ap⟩:=CW (k:=.i64) Tryd.underlying36 Tryd.underlying3 (by kernel_rfl) t3
 obtain⟨At,nt,ct,lt,rfl,at_⟩:=CW (k:=.u8) Tryd.underlying34 Tryd.underlying5 (by kernel_rfl) t4
 have e:cs= #[.int .i64 kd,.int .i64 rn,.int .i64 fn,.slice Ap np cp,.slice At nt ct] :=by
  apply Array.ext_getElem?
  intro i
  by_cases hi:i<5
  ·obtain rfl | rfl | rfl | rfl | rfl:i=0\/i=1\/i=2\/i=3\/i=4:=by omega
   ·rw [h0];rfl
   ·rw [h1];rfl
   ·rw [h2];rfl
   ·rw [h3];rfl
   ·rw [h4];rfl
  ·rw [Array.getElem?_eq_none (by rw [hsz];simpa using hi),Array.getElem?_eq_none (by simpa using hi)]
 exact⟨kd,rn,fn,Ap,np,cp,lp,At,nt,ct,lt,by rw [e],w0,w1,w2,ap,at_⟩
end
end Go.Proofs.YtoaabebgmdbjeaaDoor
namespace Go.Proofs.YtoaabebgmdbjeaaDoor
open Go Go.Joins Go.ChangeShapes Go.WideShapes Go.RowKit Go.Deep
theorem Arg.below {k:IntKind} {w w':World} {A:Option Addr} {n c:Nat} {l:List Int} (h:Arg k w A n c l) (b:Below w.heap.size w w'):Arg k w' A n c l:=
 ⟨h.len,(h.seen.below b).more b.size,h.wf,h.le,h.cap,h.nil⟩
structure Oc (w:World) (kd rn fn:Int) (Ap:Option Addr) (np cp:Nat) (lp:List Int) (At:Option Addr) (nt ct:Nat) (lt:List Int):Prop where
 hk: -9223372036854775808<=kd/\kd<=9223372036854775807
 hr: -9223372036854775808<=rn/\rn<=9223372036854775807
 hf: -9223372036854775808<=fn/\fn<=9223372036854775807
 hP:Arg .i64 w Ap np cp lp
 hT:Arg .u8 w At nt ct lt
theorem Oc.below {w w':World} {kd rn fn:Int} {Ap:Option Addr} {np cp:Nat} {lp:List Int} {At:Option Addr} {nt ct:Nat} {lt:List Int} (h:Oc w kd rn fn Ap np cp lp At nt ct lt) (b:Below w.heap.size w w'):Oc w' kd rn fn Ap np cp lp At nt ct lt:=
 ⟨h.hk,h.hr,h.hf,h.hP.below b,h.hT.below b⟩
def NS (w:World) (A:Option Addr) (n:Nat):Prop:=
 ∀i,i<n-> ∃(ad:Addr) (kd rn fn:Int) (Ap:Option Addr) (np cp:Nat) (lp:List Int) (At:Option Addr) (nt ct:Nat) (lt:List Int),A=some ad/\ad.block<w.heap.size/\
  w.cell? (ad.add (i*5))=some (.int .i64 kd)/\w.cell? ⟨(ad.add (i*5)).block,(ad.add (i*5)).off+1,none⟩=some (.int .i64 rn)/\w.cell? ⟨(ad.add (i*5)).block,(ad.add (i*5)).off+2,none⟩=some (.int .i64 fn)/\w.cell? ⟨(ad.add (i*5)).block,(ad.add (i*5)).off+3,none⟩=some (.slice Ap np cp)/\w.cell? ⟨(ad.add (i*5)).block,(ad.add (i*5)).off+4,none⟩=some (.slice At nt ct)/\
  Oc w kd rn fn Ap np cp lp At nt ct lt
theorem NS.below {w w':World} {A:Option Addr} {n:Nat} (h:NS w A n) (b:Below w.heap.size w w'):NS w' A n:=fun i hi=>by
 obtain⟨ad,kd,rn,fn,Ap,np,cp,lp,At,nt,ct,lt,h1,h2,c0,c1,c2,c3,c4,hk⟩:=h i hi
 have cz:w'.cell? (ad.add (i*5))=w.cell? (ad.add (i*5)):=b.cell (p:=ad.add (i*5)) (by rw [addBlock];exact h2)
 have cc: ∀j,w'.cell? ⟨(ad.add (i*5)).block,j,none⟩=w.cell? ⟨(ad.add (i*5)).block,j,none⟩:=fun j=>b.cell (p:=⟨(ad.add (i*5)).block,j,none⟩) (by show(ad.add (i*5)).block<_;rw [addBlock];exact h2)
 exact⟨ad,kd,rn,fn,Ap,np,cp,lp,At,nt,ct,lt,h1,Nat.lt_of_lt_of_le h2 b.size,cz.trans c0,(cc _).trans c1,(cc _).trans c2,(cc _).trans c3,(cc _).trans c4,hk.below b⟩
end Go.Proofs.YtoaabebgmdbjeaaDoor
