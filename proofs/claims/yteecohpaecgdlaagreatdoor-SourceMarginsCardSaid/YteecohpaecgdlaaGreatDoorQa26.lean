/- A part of the proof: ArgScreen, TabsLaid, EraseSpec, ScrStore, SrcLaw, ScrRight, OpenMany. -/
import Derived.Test.YteecohpaecgdlaaGreatDoorQa25
import Derived.Deep.Slices
import Derived.Deep.Fields
import Derived.ChangeSame
set_option maxRecDepth 100000
set_option maxHeartbeats 16000000
set_option linter.unusedVariables false
namespace Go.Proofs.YteecohpaecgdlaaGreatDoor
open Go.RowKit
def vI (rw cl:Int) (Ap:Option Addr) (np cp:Nat) (At:Option Addr) (nt ct:Nat) (a b c d e p q r u:Int):Array Value:= #[.int .i64 rw,.int .i64 cl,.slice Ap np cp,.slice At nt ct,.int .i64 a,.int .i64 b,.int .i64 c,.int .i64 d,.int .i64 e,.int .i64 p,.int .i64 q,.int .i64 r,.int .u64 u]
theorem Ke (rw cl:Int) (Ap:Option Addr) (np cp:Nat) (lp:List Int) (At:Option Addr) (nt ct:Nat) (lt:List Int) (a b c d e p q r u:Int) (w:World)
  (hr:(Lit.int .i64 rw).wf=true) (hc:(Lit.int .i64 cl).wf=true) (hp:Arg .i64 w Ap np cp lp) (ht:Arg .i64 w At nt ct lt) (ha:(Lit.int .i64 a).wf=true) (hb:(Lit.int .i64 b).wf=true) (hc':(Lit.int .i64 c).wf=true) (hd:(Lit.int .i64 d).wf=true) (he:(Lit.int .i64 e).wf=true)
  (hp0:(Lit.int .i64 p).wf=true) (hp1:(Lit.int .i64 q).wf=true) (hp2:(Lit.int .i64 r).wf=true) (hu:(Lit.int .u64 u).wf=true):
  ∃S:SN.Sc,SN.Ad S/\S.g.rows<=5/\S.g.AB<=9/\Hid (∀w',Below w.heap.size w w'->Calls Tryz.prog 17 #[.agg (vI rw cl Ap np cp At nt ct a b c d e p q r u)] w' (Ay w' S)):=by
 obtain⟨R,hR⟩: ∃R:Nat,1+rw%(5-1+1)=(R:Int):=⟨(1+rw%5).toNat,by omega⟩
 obtain⟨K,hK⟩: ∃K:Nat,1+cl%(9-1+1)=(K:Int):=⟨(1+cl%9).toNat,by omega⟩
 have hG:=Rq lp lt (R:=R) (K:=K) (by omega) (by omega) (by omega) (by omega)
 obtain⟨n,rfl⟩: ∃n:Nat,u=(n:Int):=⟨u.toNat,by have:=bounds_u64 hu;omega⟩
 have hn:TB.Ok n:=by have:=bounds_u64 hu;unfold TB.Ok;omega
 refine⟨SN.RL (PG.ofL R K (PG.DY lp lt R K)) ⟨a,b,c,d,e,p,q,r,n⟩,SN.UH hG _ hn,?_,?_,hide fun w' hw=>?_⟩
 ·show R<=5
  omega
 ·show K<=9
  omega
 ·exact Nt _ _ _ _ ⟨a,b,c,d,e,p,q,r,n⟩ _ w' hG ⟨⟨bounds_i64 ha,bounds_i64 hb,bounds_i64 hc',bounds_i64 hd⟩,⟨bounds_i64 he,bounds_i64 hp0,bounds_i64 hp1,bounds_i64 hp2⟩⟩
   (hide fun w'' hw''=>Ue rw cl R K np cp nt ct lp lt Ap At w w'' (hw.trans (hw''.mono hw.size)) hR hK (bounds_i64 hr) (bounds_i64 hc) hp ht)
end Go.Proofs.YteecohpaecgdlaaGreatDoor
namespace Go.Proofs.YteecohpaecgdlaaGreatDoor
open Go.RowKit
theorem vJ:Tryz.prog.globalNamed "math/bits.deBruijn64tab" =some 4:=by kernel_rfl
theorem vK:(Tryz.prog.globals[4]?).map (·.type)=some 173:=by kernel_rfl
theorem ZX:tiled Tryz.prog 4 173=true:=by kernel_rfl
theorem gH:flat (H:=Unit) Rows.laid_math_bits_deBruijn64tab=some (Lib.deBruijn64tab.map fun z:Nat=>Value.int .u8 (z:Int)):=by kernel_rfl
theorem Jy {w:World} {l:List (String × DataW Unit)} (h:laidMet Tryz.prog l w) (hm:("math/bits.deBruijn64tab",Rows.laid_math_bits_deBruijn64tab)∈l):JY w:=by
 have hl:(Lib.deBruijn64tab.map fun z:Nat=>Value.int .u8 (z:Int)).length=64:=by kernel_rfl
 obtain⟨t,ht⟩:=DV 4 vJ vK ZX gH (by rw [hl];omega) h hm
 intro j hj
 rw [cell_of_row w _ j _ t (0,0) ht,List.getElem?_toArray,List.getElem?_map,List.getD_eq_getElem?_getD,List.getElem?_eq_getElem hj]
 rfl
end Go.Proofs.YteecohpaecgdlaaGreatDoor
namespace Go.Proofs.YteecohpaecgdlaaGreatDoor
open Go.RowKit
namespace PG
theorem gI {f:Nat->Cl} {n a b j:Nat} {p:Pn} (h:a<=j/\j<b):mend (DX f a b p) n j=blank p:=by
 have e:DX f a b p j=blank p:=if_pos h
 unfold mend
 rw [e,if_neg (by rw [Hu];omega)]
theorem ZY {f:Nat->Cl} {n a b j:Nat} {p:Pn} (hf:Bc f n) (hj:j<n) (h1: ¬(a<=j/\j<b)) (h2: ¬(a<=j+1/\j+1<b)) (h3:0<j-> ¬(a<=j-1/\j-1<b)):mend (DX f a b p) n j=f j:=by
 have e:DX f a b p j=f j:=if_neg h1
 have e1:DX f a b p (j+1)=f (j+1):=if_neg h2
 have hm:=Tv hf hj
 unfold mend at hm⊢
 rw [e,e1]
 by_cases h0:0<j
 ·rw [show DX f a b p (j-1)=f (j-1) from if_neg (h3 h0)]
  exact hm
 ·simp only [h0,false_and] at hm⊢
  exact hm
def Gone (all:Bool) (r c k y x:Nat):Prop:=((k=0/\(r<y\/(y=r/\c<=x)))\/(k=1/\(y<r\/(y=r/\x<=c)))\/k=2)/\(all=true\/y=r)
instance (all:Bool) (r c k y x:Nat):Decidable (Gone all r c k y x):=inferInstanceAs (Decidable (_/\_))
def OL (r c y x:Nat):Prop:=y=r/\(x+1=c\/x=c+1)
instance (r c y x:Nat):Decidable (OL r c y x):=inferInstanceAs (Decidable (_/\_))
theorem Py {g:Gr} (h:BD g) {r c k x:Nat} {p:Pn} (hr:r<g.rows) (hc:c<g.AB) (hk:k<=2) (hx:x<g.AB) (all:Bool):
  (Gone all r c k r x->mend (DX (g.f r) (if k=0 then c else 0) (if k=1 then c+1 else g.AB) p) g.AB x=blank p)/\
  (¬Gone all r c k r x-> ¬OL r c r x->mend (DX (g.f r) (if k=0 then c else 0) (if k=1 then c+1 else g.AB) p) g.AB x=g.f r x):=by
 unfold Gone OL
 have hk3:k=0\/k=1\/k=2:=by omega
 refine⟨fun hg=>gI ?_,fun hg hn=>ZY (h.2.2.2.2 r hr) hx ?_ ?_ ?_⟩
 all_goals
  rcases hk3 with rfl | rfl | rfl<;>simp<;>simp at hg<;>omega
theorem Vn {g:Gr} (h:BD g) {r c k y x:Nat} {p:Pn} (hr:r<g.rows) (hc:c<g.AB) (hk:k<=2) (hy:y<g.rows) (hx:x<g.AB):
  (Gone true r c k y x->(EI g r c k p).f y x=blank p)/\(¬Gone true r c k y x-> ¬OL r c y x->(EI g r c k p).f y x=g.f y x):=by
 have e:EI g r c k p=Bv g r c k p:=if_pos ⟨⟨by omega,by omega,by omega,by omega⟩,by omega,by omega⟩
 rw [e]
 show(_->(if k=2\/(k=0/\r<y)\/(k=1/\y<r) then blank p else if y=r then mend (DX (g.f r) (if k=0 then c else 0) (if k=1 then c+1 else g.AB) p) g.AB x else g.f y x)=blank p)/\(_->_->(if k=2\/(k=0/\r<y)\/(k=1/\y<r) then blank p else if y=r then mend (DX (g.f r) (if k=0 then c else 0) (if k=1 then c+1 else g.AB) p) g.AB x else g.f y x)=g.f y x)
 by_cases h1:k=2\/(k=0/\r<y)\/(k=1/\y<r)
 ·rw [if_pos h1]
  exact⟨fun _=>rfl,fun hg=>absurd (show Gone true r c k y x from⟨by omega,.inl rfl⟩) hg⟩
 ·rw [if_neg h1]
  by_cases h2:y=r
  ·subst h2
   rw [if_pos rfl]
   exact Py h hr hc hk hx true
  ·rw [if_neg h2]
   exact⟨fun hg=>by unfold Gone at hg;omega,fun _ _=>rfl⟩
theorem Za {g:Gr} (h:BD g) {r c k y x:Nat} {p:Pn} (hr:r<g.rows) (hc:c<g.AB) (hk:k<=2) (hy:y<g.rows) (hx:x<g.AB):
  (Gone false r c k y x->(Bf g r c k p).f y x=blank p)/\(¬Gone false r c k y x-> ¬OL r c y x->(Bf g r c k p).f y x=g.f y x):=by
 have e:Bf g r c k p=Cj g r (if k=0 then c else 0) (if k=1 then c+1 else g.AB) p:=by
  unfold Bf
  rw [if_pos ⟨⟨by omega,by omega,by omega,by omega⟩,by omega,by omega⟩]
  obtain rfl | rfl | rfl:k=0\/k=1\/k=2:=by omega
  all_goals simp
 rw [e]
 by_cases h2:y=r
 ·subst h2
  have e2: ∀j,(Cj g y (if k=0 then c else 0) (if k=1 then c+1 else g.AB) p).f y j=mend (DX (g.f y) (if k=0 then c else 0) (if k=1 then c+1 else g.AB) p) g.AB j:=fun j=>by
   unfold Cj
   rw [if_pos hy]
   simp only [if_true]
  rw [e2]
  exact Py h hr hc hk hx false
 ·rw [T9 h2]
  exact⟨fun hg=>by unfold Gone at hg;simp at hg;omega,fun _ _=>rfl⟩
end PG
namespace SN
theorem mH (s:Sc) (fn:Int) (l:List Int): ∀t,J9 s fn l=some t-> ∃r c,t=atS s r c:=by
 have hn: ∀t,(none:Option Sc)=some t-> ∃r c,t=atS s r c:=fun t e=>nomatch e
 unfold J9
 exact CY ⟨_,_,rfl⟩ (CY ⟨_,_,rfl⟩ (CY ⟨_,_,rfl⟩ (CY ⟨_,_,rfl⟩ (CY ⟨_,_,rfl⟩ (CY ⟨_,_,rfl⟩ (CY ⟨_,_,rfl⟩ (CY ⟨_,_,rfl⟩ (CY ⟨_,_,rfl⟩ hn))))))))
def Qu (fn:Int):Prop:=fn=65\/fn=66\/fn=67\/fn=68\/fn=69\/fn=70\/fn=71\/fn=100\/fn=72\/fn=102
theorem Zb (s:Sc) {fn:Int} (h:Qu fn) (l:List Int): ∃t,J9 s fn l=some t:=by
 rcases h with rfl | rfl | rfl | rfl | rfl | rfl | rfl | rfl | rfl | rfl
 all_goals exact⟨_,rfl⟩
theorem TR (s:Sc) {fn:Int} (h:Qu fn) (l:List Int): ∃r c,doS s 4 0 0 0 fn l=atS s r c:=by
 obtain⟨t,ht⟩:=Zb s h l
 obtain⟨r,c,e⟩:=mH s fn l t ht
 refine⟨r,c,?_⟩
 show Rx s 0 0 fn l=_
 unfold Rx
 rw [if_neg (by omega),if_neg (by omega),ht]
 exact e
theorem Vo {s:Sc} (h:Ad s) (n:Nat) (h1:s.col+n<=s.g.AB-1) (h2:1<=n) (h3:n<=9):(doS (doS s 4 0 0 0 67 [(n:Int)]) 4 0 0 0 68 [(n:Int)]).col=s.col:=by
 have hc:=h.g.2.2.1
 have ea:BX [(n:Int)] 0 1=(n:Int):=by
  unfold BX
  show(if (n:Int)<1 then (1:Int) else (n:Int))=_
  rw [if_neg (by omega)]
 have e1: ∀t:Sc,doS t 4 0 0 0 67 [(n:Int)] =atS t t.row ((t.col:Int)+n):=fun t=>by
  show atS t t.row ((t.col:Int)+BX [(n:Int)] 0 1)=_
  rw [ea]
 have e2: ∀t:Sc,doS t 4 0 0 0 68 [(n:Int)] =atS t t.row ((t.col:Int)-n):=fun t=>by
  show atS t t.row ((t.col:Int)-BX [(n:Int)] 0 1)=_
  rw [ea]
 rw [e1,e2]
 show pin (((pin ((s.col:Int)+n) s.g.AB:Nat):Int)-n) s.g.AB=s.col
 rw [show((s.col:Int)+n)=((s.col+n:Nat):Int) by omega,EY (by omega),show(((s.col+n:Nat):Int)-n)=(s.col:Int) by omega]
 exact EY h.col
def FC (top:Nat):Nat:=max top 1-1
def FE (s:Sc) (bottom:Nat):Nat:=(if 0<bottom then min bottom s.g.rows else s.g.rows)-1
theorem KZ (s:Sc) (hR:1<=s.g.rows) (top bottom:Nat):doS s 4 0 0 0 114 [(top:Int),(bottom:Int)] =if FC top<FE s bottom then IU ((s.u6 (FC top)).u7 (FE s bottom)) else s:=by
 have e1:marginTop [(top:Int),(bottom:Int)] =(FC top:Nat):=by
  unfold marginTop BX FC
  show(if (top:Int)<1 then (1:Int) else (top:Int))-1=_
  split<;>omega
 have e2:Bt s [(top:Int),(bottom:Int)] =(FE s bottom:Nat):=by
  unfold Bt BX FE
  show min (if (bottom:Int)<1 then (s.g.rows:Int) else (bottom:Int)) s.g.rows-1=_
  split<;>split<;>omega
 show(if marginTop _<Bt s _ then IU ((s.u6 (marginTop _).toNat).u7 (Bt s _).toNat) else s)=_
 rw [e1,e2]
 by_cases h:FC top<FE s bottom
 ·rw [if_pos (by omega),if_pos h]
  rfl
 ·rw [if_neg (by omega),if_neg h]
end SN
end Go.Proofs.YteecohpaecgdlaaGreatDoor
namespace Go.Proofs.YteecohpaecgdlaaGreatDoor
open Go Go.RowKit
theorem OM {w:World} {g T:Nat} {cs ds:Array Value} (h:Box w g T cs) (hs:cs.size=29) (hd:ds.size=29) (h1:ds.all (·.oneCell')=true) (ρ:Operand->Value) (o:Oper) {y z:Operand} (ho:o.op=.store 34 y z) (hy:ρ y=.pointer (some ⟨g,0,none⟩)) (hz:ρ z=.agg ds):
  (execOp ρ o).run Tryz.prog w=.ok .skip (G9 w g 0 ds.toList):=by
 unfold execOp
 simp only [ho,hy,hz,Instr.storeAt,Instr.sureAddr,Sem.run_bind,Sem.run_pure,Result.andThen_ok,run_storeVar_mid w g 0 34 ds (h.there (hs.trans hd.symm)) (by rw [Ef,hd]) h1]
 rw [FI]
end Go.Proofs.YteecohpaecgdlaaGreatDoor
namespace Go.Proofs.YteecohpaecgdlaaGreatDoor
open Go Go.RowKit
def EvN (kd fn:Int) (n:Nat) (cs:Array Value) (v:Value) (w:World):Prop:= ∃g,v=.agg #[.int .i64 kd,.int .i32 0,.int .u8 0,.int .u8 0,.int .u8 fn,.slice (some ⟨g,0,none⟩) n n,.string {data:= #[]}] /\Box w g 3 cs
theorem EvN.stays {Ts:List TypeId} {kd fn:Int} {n:Nat} {cs:Array Value} (h:Ts.all (fun x=>x !=3)=true):He Ts (EvN kd fn n cs):=
 ⟨fun v w w' ⟨g,h1,h2⟩ hb=>⟨g,h1,h2.below hb h2.lt⟩,fun v w w' g' T' cs' ⟨g,h1,h2⟩ hb hT hk=>⟨g,h1,h2.kept hk (fun hm=>by
  have e:g=g':=by simpa using hm
  subst e
  unfold Box at h2 hb
  rw [hb] at h2
  simp only [Option.some.injEq,Obj.cells.injEq] at h2
  have:=List.all_eq_true.1 h _ hT
  simp [h2.2.1] at this)⟩⟩
theorem seen_ints {w:World} {g B:Nat} {T:TypeId} {l:List Int} (h:Box w g T (l.map (Value.int .i64)).toArray) (hB:g<B):Seen w B (some ⟨g,0,none⟩) l.length (l.map (Value.int .i64)):=
 ⟨by simp,fun j u hu=>⟨_,rfl,hB,by
  have:=h.cell j
  rw [List.getElem?_toArray,hu] at this
  by_cases hj:j=0
  ·subst hj
   simpa [Addr.add] using this
  ·simpa [Addr.add,hj] using this⟩⟩
theorem Mt (s:SN.Sc) (v:Value) (kd fn:Int) (l:List Int) (n g:Nat) (w:World) (hs:SN.Ad s) (hn:l.length=n) (hn2:n<=100) (hlb: ∀x∈l, -1<=x/\x<=65535) (hk:kd≠1) (hT:Gb w) (hb:Box w g 3 (l.map (Value.int .i64)).toArray) (h:IsS w s v):
  Calls Tryz.prog 21 #[v,.agg #[.int .i64 kd,.int .i32 0,.int .u8 0,.int .u8 0,.int .u8 fn,.slice (some ⟨g,0,none⟩) n n,.string {data:= #[]}]] w (Ay w (SN.doS s kd 0 0 0 fn l)):=by
 subst hn
 exact qZ s v kd 0 0 0 fn _ _ _ (g+1) _ l w hs (seen_ints hb (Nat.lt_succ_self _)) hb.lt hn2 (Nat.le_refl _) hlb (fun e=>absurd e hk) hT h
def ev0 (kd fn:Int) (l:List Int):PA.Ev:=⟨kd,0,0,0,fn,l, []⟩
theorem TS {kd fn:Int} {l:List Int} (hk:kd≠1) (hn:l.length<=16) (hl: ∀x∈l, -1<=x/\x<=65535):PA.Fits (ev0 kd fn l):=⟨fun e=>absurd e hk,hn,hl⟩
def gJ (w:World) (p:PA.Ev × Value):Prop:= ∃Ap cp,p.2=.slice Ap p.1.params.length cp/\Seen w w.heap.size Ap p.1.params.length (Lm p.1.params)/\p.1.params.length<=1024
theorem Zc {w:World} {kd fn:Int}:gJ w (ev0 kd fn [],.slice none 0 0):=⟨none,0,rfl,Seen.XF _ _ _,by show 0<=1024;omega⟩
theorem Pz {w:World} {kd fn x:Int} {g:Nat} (h:Box w g 3 #[.int .i64 x]):gJ w (ev0 kd fn [x],.slice (some ⟨g,0,none⟩) 1 1):=
 ⟨some ⟨g,0,none⟩,1,rfl,seen_ints (l:= [x]) h h.lt,by show 1<=1024;omega⟩
theorem P5 {w:World} {g:Nat} {M:List (PA.Ev × Value)} {cs:Array Value} {n:Nat} (hb:Box w g 49 cs) (hc:cs.toList=Cn M) (hn:M.length=n) (hp: ∀p∈M,gJ w p):LD w (some ⟨g,0,none⟩) n M:=by
 refine⟨hn,fun k p hk=>⟨g,rfl,hb.lt,fun j u hu=>?_,hp p (List.mem_of_getElem? hk)⟩⟩
 rw [hb.cell, <- Array.getElem?_toList,hc]
 exact Jt M k j p u hk hu
end Go.Proofs.YteecohpaecgdlaaGreatDoor
namespace Go.Proofs.YteecohpaecgdlaaGreatDoor
open Go.RowKit
theorem P6 (s:SN.Sc) (x:Value) (hs:SN.Ad s) (w:World) (h:IsG w s.g (gv s.g.rows s.g.AB x)) (hsp:DZ w):
  Calls Tryz.prog 24 #[.agg (scA x s)] w fun e w'=>e=.returned (.bool true)/\Below w.heap.size w w':=by
 rw [jW]
 exact Va (SN.raw s) x true (X7 hs) hs.g w h hsp
end Go.Proofs.YteecohpaecgdlaaGreatDoor
namespace Go.Proofs.YteecohpaecgdlaaGreatDoor
open Go Go.Joins Go.ChangeShapes Go.WideShapes Go.RowKit Go.Deep
section
variable {H:Type} {enc:TypeId × Value->H} {P:Program} {w:World} {base:Nat} {spare:Nat->Bool} {held:Bool}
theorem JB {k:IntKind} {t e:TypeId} {n:Nat} {u:Value} {y:DataW H × List MemPlace} (ht:P.underlying t=some (.slice e)) (he:P.underlying e=some (.int k)) (hc:P.cellsOf e=1) (h:DataW.trod enc P w 0 (fun _=>true) held n t [u] =some y):
  ∃A m c l,u=.slice A m c/\Arg k w A m c l:=by
 rcases open_ints ht he hc h with ⟨hcs,_⟩ | ⟨x,l,c,zs,hcs,_,hl,hm,hz,_,hcell,hwz⟩
 ·simp only [List.cons.injEq,and_true] at hcs
  exact⟨none,0,0, [],hcs,Arg.none _ _⟩
 ·simp only [List.cons.injEq,and_true] at hcs
  exact⟨some x,l,c,zs.take l,hcs,Arg.some_ hl hm (by simpa using hz) hcell hwz⟩
end
end Go.Proofs.YteecohpaecgdlaaGreatDoor
namespace Go.Proofs.YteecohpaecgdlaaGreatDoor
open Go Go.Joins Go.ChangeShapes Go.WideShapes Go.RowKit Go.Deep
section
variable {H:Type} {enc:TypeId × Value->H} {w:World} {held:Bool}
theorem Bo {P:Program} {k:IntKind} {t:TypeId} {n:Nat} {u:Value} {y:DataW H × List MemPlace} (he:P.underlying t=some (.int k)) (h:DataW.trod enc P w 0 (fun _=>true) held n t [u] =some y):
  ∃z,u=.int k z/\(Lit.int k z).wf=true:=by
 obtain⟨z,hc,_,hw⟩:=DataW.trod_int he h
 simp only [List.cons.injEq,and_true] at hc
 exact⟨z,hc,by first | exact hw | exact hw.1 | simpa using hw⟩
end
end Go.Proofs.YteecohpaecgdlaaGreatDoor
namespace Go.Proofs.YteecohpaecgdlaaGreatDoor
open Go Go.Joins Go.ChangeShapes Go.WideShapes Go.RowKit Go.Deep
section
variable {H:Type} {enc:TypeId × Value->H} {w:World} {held:Bool}
theorem Vp {P:Program} {r:Reach} {b0:Nat} {t:TypeId} {fs:Array Field} {v:Value} {d:DataW H} {p:List MemPlace} (hs:P.underlying t=some (.struct fs)) (hv:Value.okWide P w r b0 t v) (h:DataW.Trod enc P w 0 (fun _=>true) held t v d p):
  ∃(cs:Array Value) (n:Nat),v=.agg cs/\cs.size=P.cellsOf t/\ ∀(j:Nat) (f:Field),fs[j]? =some f-> ∀k,P.cellsOf f.type=k-> ∃(y:DataW H × List MemPlace),DataW.trod enc P w 0 (fun _=>true) held n f.type ((cs.toList.drop f.offset).take k)=some y:=by
 obtain⟨cs,rfl,hsz⟩:=okWide_struct hs hv
 obtain⟨fuel,hf⟩:=h
 obtain⟨xs,n,_,hx,_,hlen,hg⟩:=DataW.trod_struct hs hf
 refine⟨cs,n,rfl,hsz,fun j f hj k hk=>?_⟩
 subst hk
 have hjl:j<fs.size:=(Array.getElem?_eq_some_iff.1 hj).1
 have hxl:j<xs.length:=by omega
 exact⟨xs[j],(hg j f hj).trans (List.getElem?_eq_getElem hxl)⟩
theorem TU {P:Program} {t:TypeId} {fs:Array Field} {fuel:Nat} {cs:List Value} {x:DataW H × List MemPlace} (hs:P.underlying t=some (.struct fs)) (h:DataW.trod enc P w 0 (fun _=>true) held fuel t cs=some x):
  ∃(n:Nat),cs.length=P.cellsOf t/\ ∀(j:Nat) (f:Field),fs[j]? =some f-> ∀k,P.cellsOf f.type=k-> ∃(y:DataW H × List MemPlace),DataW.trod enc P w 0 (fun _=>true) held n f.type ((cs.drop f.offset).take k)=some y:=by
 obtain⟨xs,n,_,hx,hl,hlen,hg⟩:=DataW.trod_struct hs h
 refine⟨n,hl,fun j f hj k hk=>?_⟩
 subst hk
 have hjl:j<fs.size:=(Array.getElem?_eq_some_iff.1 hj).1
 have hxl:j<xs.length:=by omega
 exact⟨xs[j],(hg j f hj).trans (List.getElem?_eq_getElem hxl)⟩
theorem Fb {r:Reach} {b0:Nat} {v:Value} {d:DataW H} {p:List MemPlace} (hv:Value.okWide Tryz.prog w r b0 45 v) (h:DataW.Trod enc Tryz.prog w 0 (fun _=>true) held 45 v d p):
  ∃(rw cl:Int) (Ap:Option Addr) (np cp:Nat) (lp:List Int) (At:Option Addr) (nt ct:Nat) (lt:List Int) (a b c d e p0 p1 p2 u:Int),
   v=.agg #[.int .i64 rw,.int .i64 cl,.slice Ap np cp,.slice At nt ct,.int .i64 a,.int .i64 b,.int .i64 c,.int .i64 d,.int .i64 e,.int .i64 p0,.int .i64 p1,.int .i64 p2,.int .u64 u] /\
   (Lit.int .i64 rw).wf=true/\(Lit.int .i64 cl).wf=true/\Arg .i64 w Ap np cp lp/\Arg .i64 w At nt ct lt/\(Lit.int .i64 a).wf=true/\(Lit.int .i64 b).wf=true/\(Lit.int .i64 c).wf=true/\(Lit.int .i64 d).wf=true/\(Lit.int .i64 e).wf=true/\
   (Lit.int .i64 p0).wf=true/\(Lit.int .i64 p1).wf=true/\(Lit.int .i64 p2).wf=true/\(Lit.int .u64 u).wf=true:=by
 obtain⟨⟨l⟩,n,rfl,hsz,hf⟩:=Vp Tryz.underlying45 hv h
 have hl:l.length=13:=hsz.trans (by kernel_rfl)
 obtain⟨k0,k1,k2,k3,k4,k5,k6,k7,k8,k9,k10,k11,k12,rfl⟩: ∃k0 k1 k2 k3 k4 k5 k6 k7 k8 k9 k10 k11 k12,l= [k0,k1,k2,k3,k4,k5,k6,k7,k8,k9,k10,k11,k12] :=by
  match l,hl with
  | [k0,k1,k2,k3,k4,k5,k6,k7,k8,k9,k10,k11,k12],_=>exact⟨k0,k1,k2,k3,k4,k5,k6,k7,k8,k9,k10,k11,k12,rfl⟩
 obtain⟨yg,tg⟩: ∃y,DataW.trod enc Tryz.prog w 0 (fun _=>true) held n 42 [k0,k1,k2,k3] =some y:=hf 0 _ rfl 4 (by kernel_rfl)
 obtain⟨y1,t1⟩: ∃y,DataW.trod enc Tryz.prog w 0 (fun _=>true) held n 3 [k4] =some y:=hf 1 _ rfl 1 (by kernel_rfl)
 obtain⟨y2,t2⟩: ∃y,DataW.trod enc Tryz.prog w 0 (fun _=>true) held n 3 [k5] =some y:=hf 2 _ rfl 1 (by kernel_rfl)
 obtain⟨y3,t3⟩: ∃y,DataW.trod enc Tryz.prog w 0 (fun _=>true) held n 3 [k6] =some y:=hf 3 _ rfl 1 (by kernel_rfl)
 obtain⟨y4,t4⟩: ∃y,DataW.trod enc Tryz.prog w 0 (fun _=>true) held n 3 [k7] =some y:=hf 4 _ rfl 1 (by kernel_rfl)
 obtain⟨y5,t5⟩: ∃y,DataW.trod enc Tryz.prog w 0 (fun _=>true) held n 3 [k8] =some y:=hf 5 _ rfl 1 (by kernel_rfl)
 obtain⟨yp,tp⟩: ∃y,DataW.trod enc Tryz.prog w 0 (fun _=>true) held n 43 [k9,k10,k11] =some y:=hf 6 _ rfl 3 (by kernel_rfl)
 obtain⟨y7,t7⟩: ∃y,DataW.trod enc Tryz.prog w 0 (fun _=>true) held n 29 [k12] =some y:=hf 7 _ rfl 1 (by kernel_rfl)
 obtain⟨ng,_,hg⟩:=TU Tryz.underlying42 tg
 obtain⟨nq,_,hp⟩:=TU Tryz.underlying43 tp
 obtain⟨g0,s0⟩: ∃y,DataW.trod enc Tryz.prog w 0 (fun _=>true) held ng 3 [k0] =some y:=hg 0 _ rfl 1 (by kernel_rfl)
 obtain⟨g1,s1⟩: ∃y,DataW.trod enc Tryz.prog w 0 (fun _=>true) held ng 3 [k1] =some y:=hg 1 _ rfl 1 (by kernel_rfl)
 obtain⟨g2,s2⟩: ∃y,DataW.trod enc Tryz.prog w 0 (fun _=>true) held ng 40 [k2] =some y:=hg 2 _ rfl 1 (by kernel_rfl)
 obtain⟨g3,s3⟩: ∃y,DataW.trod enc Tryz.prog w 0 (fun _=>true) held ng 40 [k3] =some y:=hg 3 _ rfl 1 (by kernel_rfl)
 obtain⟨q0,r0⟩: ∃y,DataW.trod enc Tryz.prog w 0 (fun _=>true) held nq 3 [k9] =some y:=hp 0 _ rfl 1 (by kernel_rfl)
 obtain⟨q1,r1⟩: ∃y,DataW.trod enc Tryz.prog w 0 (fun _=>true) held nq 3 [k10] =some y:=hp 1 _ rfl 1 (by kernel_rfl)
 obtain⟨q2,r2⟩: ∃y,DataW.trod enc Tryz.prog w 0 (fun _=>true) held nq 3 [k11] =some y:=hp 2 _ rfl 1 (by kernel_rfl)
 obtain⟨rw,rfl,w0⟩:=Bo Tryz.underlying3 s0
 obtain⟨cl,rfl,w1⟩:=Bo Tryz.underlying3 s1
 obtain⟨Ap,np,cp,lp,rfl,ap⟩:=JB (k:=.i64) Tryz.underlying40 Tryz.underlying3 (by kernel_rfl) s2
 obtain⟨At,nt,ct,lt,rfl,at_⟩:=JB (k:=.i64) Tryz.underlying40 Tryz.underlying3 (by kernel_rfl) s3
 obtain⟨a,rfl,wa⟩:=Bo Tryz.underlying3 t1
 obtain⟨b,rfl,wb⟩:=Bo Tryz.underlying3 t2
 obtain⟨c,rfl,wc⟩:=Bo Tryz.underlying3 t3
 obtain⟨d',rfl,wd⟩:=Bo Tryz.underlying3 t4
 obtain⟨e,rfl,we⟩:=Bo Tryz.underlying3 t5
 obtain⟨p0,rfl,wp0⟩:=Bo Tryz.underlying3 r0
 obtain⟨p1,rfl,wp1⟩:=Bo Tryz.underlying3 r1
 obtain⟨p2,rfl,wp2⟩:=Bo Tryz.underlying3 r2
 obtain⟨u,rfl,wu⟩:=Bo Tryz.underlying29 t7
 exact⟨rw,cl,Ap,np,cp,lp,At,nt,ct,lt,a,b,c,d',e,p0,p1,p2,u,rfl,w0,w1,ap,at_,wa,wb,wc,wd,we,wp0,wp1,wp2,wu⟩
end
end Go.Proofs.YteecohpaecgdlaaGreatDoor
