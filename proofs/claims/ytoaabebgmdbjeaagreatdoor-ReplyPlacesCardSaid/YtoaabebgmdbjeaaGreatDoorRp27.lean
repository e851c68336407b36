/- A part of the proof: SrcLaw, OpenMany. -/
import Derived.Test.YtoaabebgmdbjeaaGreatDoorRp26
import Derived.Deep.Slices
import Derived.Deep.Fields
import Derived.ChangeSame
set_option maxRecDepth 100000
set_option maxHeartbeats 16000000
set_option linter.unusedVariables false
namespace Go.Proofs.YtoaabebgmdbjeaaGreatDoor
open Go Go.RowKit
def EvN (kd fn:Int) (n:Nat) (cs:Array Value) (v:Value) (w:World):Prop:= ∃g,v=.agg #[.int .i64 kd,.int .i32 0,.int .u8 0,.int .u8 0,.int .u8 fn,.slice (some ⟨g,0,none⟩) n n,.string {data:= #[]}] /\Box w g 3 cs
theorem EvN.stays {Ts:List TypeId} {kd fn:Int} {n:Nat} {cs:Array Value} (h:Ts.all (fun x=>x !=3)=true):FP Ts (EvN kd fn n cs):=
 ⟨fun v w w' ⟨g,h1,h2⟩ hb=>⟨g,h1,h2.below hb h2.lt⟩,fun v w w' g' T' cs' ⟨g,h1,h2⟩ hb hT hk=>⟨g,h1,h2.kept hk (fun hm=>by
  have e:g=g':=by simpa using hm
  subst e
  unfold Box at h2 hb
  rw [hb] at h2
  simp only [Option.some.injEq,Obj.cells.injEq] at h2
  have:=List.all_eq_true.1 h _ hT
  simp [h2.2.1] at this)⟩⟩
end Go.Proofs.YtoaabebgmdbjeaaGreatDoor
namespace Go.Proofs.YtoaabebgmdbjeaaGreatDoor
open Go Go.Joins Go.ChangeShapes Go.WideShapes Go.RowKit Go.Deep
section
variable {H:Type} {enc:TypeId × Value->H} {P:Program} {w:World} {base:Nat} {spare:Nat->Bool} {held:Bool}
theorem Hf {k:IntKind} {t e:TypeId} {n:Nat} {u:Value} {y:DataW H × List MemPlace} (ht:P.underlying t=some (.slice e)) (he:P.underlying e=some (.int k)) (hc:P.cellsOf e=1) (h:DataW.trod enc P w 0 (fun _=>true) held n t [u] =some y):
  ∃A m c l,u=.slice A m c/\Arg k w A m c l:=by
 rcases open_ints ht he hc h with ⟨hcs,_⟩ | ⟨x,l,c,zs,hcs,_,hl,hm,hz,_,hcell,hwz⟩
 ·simp only [List.cons.injEq,and_true] at hcs
  exact⟨none,0,0, [],hcs,Arg.none _ _⟩
 ·simp only [List.cons.injEq,and_true] at hcs
  exact⟨some x,l,c,zs.take l,hcs,Arg.some_ hl hm (by simpa using hz) hcell hwz⟩
end
end Go.Proofs.YtoaabebgmdbjeaaGreatDoor
namespace Go.Proofs.YtoaabebgmdbjeaaGreatDoor
open Go Go.Joins Go.ChangeShapes Go.WideShapes Go.RowKit Go.Deep
section
variable {H:Type} {enc:TypeId × Value->H} {w:World} {held:Bool}
theorem Bh {P:Program} {k:IntKind} {t:TypeId} {n:Nat} {u:Value} {y:DataW H × List MemPlace} (he:P.underlying t=some (.int k)) (h:DataW.trod enc P w 0 (fun _=>true) held n t [u] =some y):
  ∃z,u=.int k z/\(Lit.int k z).wf=true:=by
 obtain⟨z,hc,_,hw⟩:=DataW.trod_int he h
 simp only [List.cons.injEq,and_true] at hc
 exact⟨z,hc,by first | exact hw | exact hw.1 | simpa using hw⟩
end
end Go.Proofs.YtoaabebgmdbjeaaGreatDoor
namespace Go.Proofs.YtoaabebgmdbjeaaGreatDoor
open Go Go.Joins Go.ChangeShapes Go.WideShapes Go.RowKit Go.Deep
section
variable {H:Type} {enc:TypeId × Value->H} {w:World} {held:Bool}
theorem Ta {P:Program} {r:Reach} {b0:Nat} {t:TypeId} {fs:Array Field} {v:Value} {d:DataW H} {p:List MemPlace} (hs:P.underlying t=some (.struct fs)) (hv:Value.okWide P w r b0 t v) (h:DataW.Trod enc P w 0 (fun _=>true) held t v d p):
  ∃(cs:Array Value) (n:Nat),v=.agg cs/\cs.size=P.cellsOf t/\ ∀(j:Nat) (f:Field),fs[j]? =some f-> ∀k,P.cellsOf f.type=k-> ∃(y:DataW H × List MemPlace),DataW.trod enc P w 0 (fun _=>true) held n f.type ((cs.toList.drop f.offset).take k)=some y:=by
 obtain⟨cs,rfl,hsz⟩:=okWide_struct hs hv
 obtain⟨fuel,hf⟩:=h
 obtain⟨xs,n,_,hx,_,hlen,hg⟩:=DataW.trod_struct hs hf
 refine⟨cs,n,rfl,hsz,fun j f hj k hk=>?_⟩
 subst hk
 have hjl:j<fs.size:=(Array.getElem?_eq_some_iff.1 hj).1
 have hxl:j<xs.length:=by omega
 exact⟨xs[j],(hg j f hj).trans (List.getElem?_eq_getElem hxl)⟩
theorem Qr {P:Program} {t:TypeId} {fs:Array Field} {fuel:Nat} {cs:List Value} {x:DataW H × List MemPlace} (hs:P.underlying t=some (.struct fs)) (h:DataW.trod enc P w 0 (fun _=>true) held fuel t cs=some x):
  ∃(n:Nat),cs.length=P.cellsOf t/\ ∀(j:Nat) (f:Field),fs[j]? =some f-> ∀k,P.cellsOf f.type=k-> ∃(y:DataW H × List MemPlace),DataW.trod enc P w 0 (fun _=>true) held n f.type ((cs.drop f.offset).take k)=some y:=by
 obtain⟨xs,n,_,hx,hl,hlen,hg⟩:=DataW.trod_struct hs h
 refine⟨n,hl,fun j f hj k hk=>?_⟩
 subst hk
 have hjl:j<fs.size:=(Array.getElem?_eq_some_iff.1 hj).1
 have hxl:j<xs.length:=by omega
 exact⟨xs[j],(hg j f hj).trans (List.getElem?_eq_getElem hxl)⟩
theorem Km {r:Reach} {b0:Nat} {v:Value} {d:DataW H} {p:List MemPlace} (hv:Value.okWide Tryz.prog w r b0 29 v) (h:DataW.Trod enc Tryz.prog w 0 (fun _=>true) held 29 v d p):
  ∃(rw cl:Int) (Ap:Option Addr) (np cp:Nat) (lp:List Int) (At:Option Addr) (nt ct:Nat) (lt:List Int) (a b c d e p0 p1 p2 u:Int),
   v=.agg #[.int .i64 rw,.int .i64 cl,.slice Ap np cp,.slice At nt ct,.int .i64 a,.int .i64 b,.int .i64 c,.int .i64 d,.int .i64 e,.int .i64 p0,.int .i64 p1,.int .i64 p2,.int .u64 u] /\
   (Lit.int .i64 rw).wf=true/\(Lit.int .i64 cl).wf=true/\Arg .i64 w Ap np cp lp/\Arg .i64 w At nt ct lt/\(Lit.int .i64 a).wf=true/\(Lit.int .i64 b).wf=true/\(Lit.int .i64 c).wf=true/\(Lit.int .i64 d).wf=true/\(Lit.int .i64 e).wf=true/\
   (Lit.int .i64 p0).wf=true/\(Lit.int .i64 p1).wf=true/\(Lit.int .i64 p2).wf=true/\(Lit.int .u64 u).wf=true:=by
 obtain⟨⟨l⟩,n,rfl,hsz,hf⟩:=Ta Tryz.underlying29 hv h
 have hl:l.length=13:=hsz.trans (by kernel_rfl)
 obtain⟨k0,k1,k2,k3,k4,k5,k6,k7,k8,k9,k10,k11,k12,rfl⟩: ∃k0 k1 k2 k3 k4 k5 k6 k7 k8 k9 k10 k11 k12,l= [k0,k1,k2,k3,k4,k5,k6,k7,k8,k9,k10,k11,k12] :=by
  match l,hl with
  | [k0,k1,k2,k3,k4,k5,k6,k7,k8,k9,k10,k11,k12],_=>exact⟨k0,k1,k2,k3,k4,k5,k6,k7,k8,k9,k10,k11,k12,rfl⟩
 obtain⟨yg,tg⟩: ∃y,DataW.trod enc Tryz.prog w 0 (fun _=>true) held n 24 [k0,k1,k2,k3] =some y:=hf 0 _ rfl 4 (by kernel_rfl)
 obtain⟨y1,t1⟩: ∃y,DataW.trod enc Tryz.prog w 0 (fun _=>true) held n 3 [k4] =some y:=hf 1 _ rfl 1 (by kernel_rfl)
 obtain⟨y2,t2⟩: ∃y,DataW.trod enc Tryz.prog w 0 (fun _=>true) held n 3 [k5] =some y:=hf 2 _ rfl 1 (by kernel_rfl)
 obtain⟨y3,t3⟩: ∃y,DataW.trod enc Tryz.prog w 0 (fun _=>true) held n 3 [k6] =some y:=hf 3 _ rfl 1 (by kernel_rfl)
 obtain⟨y4,t4⟩: ∃y,DataW.trod enc Tryz.prog w 0 (fun _=>true) held n 3 [k7] =some y:=hf 4 _ rfl 1 (by kernel_rfl)
 obtain⟨y5,t5⟩: ∃y,DataW.trod enc Tryz.prog w 0 (fun _=>true) held n 3 [k8] =some y:=hf 5 _ rfl 1 (by kernel_rfl)
 obtain⟨yp,tp⟩: ∃y,DataW.trod enc Tryz.prog w 0 (fun _=>true) held n 26 [k9,k10,k11] =some y:=hf 6 _ rfl 3 (by kernel_rfl)
 obtain⟨y7,t7⟩: ∃y,DataW.trod enc Tryz.prog w 0 (fun _=>true) held n 27 [k12] =some y:=hf 7 _ rfl 1 (by kernel_rfl)
 obtain⟨ng,_,hg⟩:=Qr Tryz.underlying24 tg
 obtain⟨nq,_,hp⟩:=Qr Tryz.underlying26 tp
 obtain⟨g0,s0⟩: ∃y,DataW.trod enc Tryz.prog w 0 (fun _=>true) held ng 3 [k0] =some y:=hg 0 _ rfl 1 (by kernel_rfl)
 obtain⟨g1,s1⟩: ∃y,DataW.trod enc Tryz.prog w 0 (fun _=>true) held ng 3 [k1] =some y:=hg 1 _ rfl 1 (by kernel_rfl)
 obtain⟨g2,s2⟩: ∃y,DataW.trod enc Tryz.prog w 0 (fun _=>true) held ng 22 [k2] =some y:=hg 2 _ rfl 1 (by kernel_rfl)
 obtain⟨g3,s3⟩: ∃y,DataW.trod enc Tryz.prog w 0 (fun _=>true) held ng 22 [k3] =some y:=hg 3 _ rfl 1 (by kernel_rfl)
 obtain⟨q0,r0⟩: ∃y,DataW.trod enc Tryz.prog w 0 (fun _=>true) held nq 3 [k9] =some y:=hp 0 _ rfl 1 (by kernel_rfl)
 obtain⟨q1,r1⟩: ∃y,DataW.trod enc Tryz.prog w 0 (fun _=>true) held nq 3 [k10] =some y:=hp 1 _ rfl 1 (by kernel_rfl)
 obtain⟨q2,r2⟩: ∃y,DataW.trod enc Tryz.prog w 0 (fun _=>true) held nq 3 [k11] =some y:=hp 2 _ rfl 1 (by kernel_rfl)
 obtain⟨rw,rfl,w0⟩:=Bh Tryz.underlying3 s0
 obtain⟨cl,rfl,w1⟩:=Bh Tryz.underlying3 s1
 obtain⟨Ap,np,cp,lp,rfl,ap⟩:=Hf (k:=.i64) Tryz.underlying22 Tryz.underlying3 (by kernel_rfl) s2
 obtain⟨At,nt,ct,lt,rfl,at_⟩:=Hf (k:=.i64) Tryz.underlying22 Tryz.underlying3 (by kernel_rfl) s3
 obtain⟨a,rfl,wa⟩:=Bh Tryz.underlying3 t1
 obtain⟨b,rfl,wb⟩:=Bh Tryz.underlying3 t2
 obtain⟨c,rfl,wc⟩:=Bh Tryz.underlying3 t3
 obtain⟨d',rfl,wd⟩:=Bh Tryz.underlying3 t4
 obtain⟨e,rfl,we⟩:=Bh Tryz.underlying3 t5
 obtain⟨p0,rfl,wp0⟩:=Bh Tryz.underlying3 r0
 obtain⟨p1,rfl,wp1⟩:=Bh Tryz.underlying3 r1
 obtain⟨p2,rfl,wp2⟩:=Bh Tryz.underlying3 r2
 obtain⟨u,rfl,wu⟩:=Bh Tryz.underlying27 t7
 exact⟨rw,cl,Ap,np,cp,lp,At,nt,ct,lt,a,b,c,d',e,p0,p1,p2,u,rfl,w0,w1,ap,at_,wa,wb,wc,wd,we,wp0,wp1,wp2,wu⟩
end
end Go.Proofs.YtoaabebgmdbjeaaGreatDoor
