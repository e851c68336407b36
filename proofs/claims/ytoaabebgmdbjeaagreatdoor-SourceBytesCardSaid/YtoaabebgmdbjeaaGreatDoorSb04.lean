/- A part of the proof: RegBrief, KeepPen, GridMem, CellSmall, CellWidth. -/
import Derived.Test.YtoaabebgmdbjeaaGreatDoorSb03
import Derived.Test.YtoaabebgmdbjeaaGreatDoorSb02
import Derived.Deep.RegionHeld3
import Derived.Laws.CopyRow
import Derived.OwnWalk
import Derived.BigRegion
import Derived.Deep.RegionHeldLaw
import Derived.Laws.Rows
set_option maxRecDepth 100000
set_option maxHeartbeats 16000000
set_option linter.unusedVariables false
namespace Go.Proofs.YtoaabebgmdbjeaaGreatDoor
open Go Go.RowKit
section
variable {P:Program} {Q:Exit->Act->World->Prop} {ops:Array Oper} {S:List (Option Nat)} {w0 w:World} {olds:Nat->Array Value} {sh:DJ} {vals:Nat->Value} {pr:Nat->Value->World->Prop} {gs:Nat->Nat} {L:Nat->Bool} {a:Act} {i:Nat}
theorem gslot (hJ:GJ ops S w0 olds sh vals pr gs L (fun j=>valOf ops j a) w) (AJ: ∀o,ops[i]? =some o-> ∀e∈o.after,Region.binds .any e=true->L e.on=true) (j:Nat) {d:Nat} {v:Value} (hs:Bp ops j=some d) (hd:((ops[i]?).map fun o=>o.after.any fun e=>Region.binds .any e&&e.on==j).getD false=true) (hl:j<ops.size) (hk:Br sh j=0) (hv:vals j=v):a.eval (.tmp d)=v:=
 AU hs (hJ.valOf hl (AZ AJ j hd) hk hv)
theorem BG (hJ:GJ ops S w0 olds sh vals pr gs L (fun j=>valOf ops j a) w) (hGS:GS ops S w0 olds sh pr gs) (hcl:Closed ops L) (hL:L i=false) (d:Nat) (u v:Value) (he:a.eval (.tmp d)=u) (o:Oper) (ho:ops[i]? =some o) (hd:o.dst.isSome=true) (hg:o.guard=none) (hk:Br sh i=0) (hv:vals i=v)
  (hr: ∀ρ:Operand->Value,(∀c,ρ (.const c)=c)->ρ (.tmp d)=u->(execOp ρ o).run P w=.ok (.value v) w):Step P ops Q (GJ ops S w0 olds sh vals pr gs) L a w i:=
 Step.val o ho hd (AV hg) v w (fun ρ hρ=>hr ρ (fun _=>(hρ _).symm) ((hρ _).symm.trans he)) (hJ.val hGS hcl hL hk (Below.refl _ _) _ hv)
theorem JD (hJ:GJ ops S w0 olds sh vals pr gs L (fun j=>valOf ops j a) w) (hGS:GS ops S w0 olds sh pr gs) (hcl:Closed ops L) (hL:L i=false) (d d':Nat) (u u' v:Value) (he:a.eval (.tmp d)=u) (he':a.eval (.tmp d')=u') (o:Oper) (ho:ops[i]? =some o) (hd:o.dst.isSome=true) (hg:o.guard=none) (hk:Br sh i=0) (hv:vals i=v)
  (hr: ∀ρ:Operand->Value,(∀c,ρ (.const c)=c)->ρ (.tmp d)=u->ρ (.tmp d')=u'->(execOp ρ o).run P w=.ok (.value v) w):Step P ops Q (GJ ops S w0 olds sh vals pr gs) L a w i:=
 Step.val o ho hd (AV hg) v w (fun ρ hρ=>hr ρ (fun _=>(hρ _).symm) ((hρ _).symm.trans he) ((hρ _).symm.trans he')) (hJ.val hGS hcl hL hk (Below.refl _ _) _ hv)
theorem DX (hJ:GJ ops S w0 olds sh vals pr gs L (fun j=>valOf ops j a) w) (hGS:GS ops S w0 olds sh pr gs) (hcl:Closed ops L) (hL:L i=false) (AJ: ∀o,ops[i]? =some o-> ∀e∈o.after,Region.binds .any e=true->L e.on=true) (d d':Nat) (u u' v:Value) (he:a.eval (.tmp d)=u) (he':a.eval (.tmp d')=u') (o:Oper) (ho:ops[i]? =some o) (hd:o.dst.isSome=true) (g:Nat) (hg:o.guard=some (g,true)) (hk:Br sh i=0) (hv:vals i=v)
  (hx:(((ops[i]?).map fun o=>o.after.any fun e=>Region.binds .any e&&e.on==g).getD false&&decide (g<ops.size))=true) (hgk:Br sh g=0) (hgv:vals g=.bool true)
  (hr: ∀ρ:Operand->Value,ρ (.tmp d)=u->ρ (.tmp d')=u'->(execOp ρ o).run P w=.ok (.value v) w):Step P ops Q (GJ ops S w0 olds sh vals pr gs) L a w i:=by
 rw [Bool.and_eq_true,decide_eq_true_eq] at hx
 exact Step.val o ho hd (BK (g:=g) (b:=true) hg (hJ.valOf hx.2 (AZ AJ g hx.1) hgk hgv)) v w (fun ρ hρ=>hr ρ ((hρ _).symm.trans he) ((hρ _).symm.trans he')) (hJ.val hGS hcl hL hk (Below.refl _ _) _ hv)
end
end Go.Proofs.YtoaabebgmdbjeaaGreatDoor
namespace Go.Proofs.YtoaabebgmdbjeaaGreatDoor
open Go.RowKit
end Go.Proofs.YtoaabebgmdbjeaaGreatDoor
namespace Go.Proofs.YtoaabebgmdbjeaaGreatDoor
open Go.RowKit
def c5 (c:PG.Cl):List Value:= [.int .i32 (PG.rn c),.int .i64 (PG.kd c),.int .i64 (PG.pn c).1,.int .i64 (PG.pn c).2.1,.int .i64 (PG.pn c).2.2]
def cv (c:PG.Cl):Value:=.agg #[.int .i32 (PG.rn c),.int .i64 (PG.kd c),.int .i64 (PG.pn c).1,.int .i64 (PG.pn c).2.1,.int .i64 (PG.pn c).2.2]
def pv (p:PG.Pn):Value:=.agg #[.int .i64 p.1,.int .i64 p.2.1,.int .i64 p.2.2]
def Ag (l:List PG.Cl):List Value:=l.flatMap c5
theorem Ri:Ag [] = [] :=rfl
theorem Ca (c:PG.Cl) (l:List PG.Cl):Ag (c::l)=c5 c++Ag l:=rfl
theorem Gf (a b:List PG.Cl):Ag (a++b)=Ag a++Ag b:=by simp [Ag]
theorem En (l:List PG.Cl):(Ag l).length=l.length*5:=by
 induction l with
 | nil=>rfl
 | cons c l ih=>rw [Ca,List.length_append,ih,List.length_cons];show 5+_=_;omega
theorem Gx: ∀(l:List PG.Cl) (k j:Nat) (c:PG.Cl) (u:Value),l[k]? =some c->(c5 c)[j]? =some u->(Ag l)[k*5+j]? =some u
 | [],k,j,c,u,h,_=>by simp at h
 | d::l,0,j,c,u,h,hu=>by
  simp at h
  subst h
  have hj:j<5:=(List.getElem?_eq_some_iff.1 hu).1
  rw [Ca,Nat.zero_mul,Nat.zero_add,List.getElem?_append_left (by show j<5;exact hj)]
  exact hu
 | d::l,k+1,j,c,u,h,hu=>by
  have ih:=Gx l k j c u (by simpa using h) hu
  rw [Ca,List.getElem?_append_right (by show 5<=_;omega),show(k+1)*5+j-(c5 d).length=k*5+j from by show(k+1)*5+j-5=_;omega]
  exact ih
theorem Ld (l:List PG.Cl): ∀u∈Ag l,u.oneCell'=true:=by
 intro u hu
 obtain⟨c,_,hu⟩:=List.mem_flatMap.1 hu
 simp only [c5,List.mem_cons,List.not_mem_nil,or_false] at hu
 rcases hu with rfl | rfl | rfl | rfl | rfl<;>rfl
theorem Ki (l:List PG.Cl) (k:Nat):(Ag l).take (k*5)=Ag (l.take k):=by
 induction l generalizing k with
 | nil=>simp [Ag]
 | cons c l ih=>
  cases k with
  | zero=>simp [Ag]
  | succ k=>
   rw [Ca,List.take_succ_cons,Ca,List.take_append, <- ih k,List.take_of_length_le (l:=c5 c) (by show 5<=_;omega)]
   congr 2
   show(k+1)*5-5=k*5
   omega
theorem Kj (l:List PG.Cl) (k:Nat):(Ag l).drop (k*5)=Ag (l.drop k):=by
 induction l generalizing k with
 | nil=>simp [Ag]
 | cons c l ih=>
  cases k with
  | zero=>simp
  | succ k=>
   rw [Ca,List.drop_succ_cons, <- ih k,List.drop_append,List.drop_of_length_le (l:=c5 c) (by show 5<=_;omega),List.nil_append]
   congr 1
   show(k+1)*5-5=k*5
   omega
def KE (xs:List Value) (o:Nat) (c:PG.Cl):List Value:=((((xs.set o (.int .i32 (PG.rn c))).set (o+1) (.int .i64 (PG.kd c))).set (o+2) (.int .i64 (PG.pn c).1)).set (o+3) (.int .i64 (PG.pn c).2.1)).set (o+4) (.int .i64 (PG.pn c).2.2)
theorem YK (a:List Value) (xs:List Value) (o:Nat) (c:PG.Cl):KE (a++xs) (a.length+o) c=a++KE xs o c:=by
 have h: ∀(ys:List Value) (j:Nat) (u:Value),(a++ys).set (a.length+j) u=a++ys.set j u:=fun ys j u=>by
  rw [List.set_append_right _ _ (by omega),Nat.add_sub_cancel_left]
 unfold KE
 rw [h,Nat.add_assoc,h,Nat.add_assoc,h,Nat.add_assoc,h,Nat.add_assoc,h]
theorem Le: ∀(l:List PG.Cl) (k:Nat) (c:PG.Cl),k<l.length->KE (Ag l) (k*5) c=Ag (l.set k c)
 | [],k,c,h=>by simp at h
 | d::l,0,c,h=>by
  rw [List.set_cons_zero,Ca,Ca]
  rfl
 | d::l,k+1,c,h=>by
  have ih:=Le l k c (by simpa using h)
  rw [List.set_cons_succ,Ca,Ca, <- ih, <- YK]
  congr 1
  show(k+1)*5=5+k*5
  omega
def Au (w:World) (B:Nat) (A:Option Addr) (n:Nat) (l:List PG.Cl):Prop:=Seen w B A (n*5) (Ag l)
section
variable {w w':World} {B B' n:Nat} {A:Option Addr} {l:List PG.Cl}
theorem Au.len (h:Au w B A n l):l.length=n:=by
 have:=h.1
 rw [En] at this
 omega
theorem Au.Xu (w:World) (B:Nat) (A:Option Addr):Au w B A 0 [] :=Seen.Xu w B A
theorem Au.below (h:Au w B A n l) (hb:Below B w w'):Au w' B A n l:=Seen.below h hb
theorem Au.more (h:Au w B A n l) (hB:B<=B'):Au w B' A n l:=Seen.more h hB
theorem Au.Bu {base:Nat} {e:TypeId} {c:Nat} (h:w.ownsRow base e 5 (.slice A n c) n (Ag l)):Au w w.heap.size A n l:=by
 refine⟨h.1,fun j u hu=>?_⟩
 rcases h.2 with ⟨_,rfl⟩ | ⟨g,cap,cur,hv,_,hh,_,_,_,_⟩
 ·have:=h.1
  rw [List.eq_nil_of_length_eq_zero (l:=Ag l) (by omega)] at hu
  simp at hu
 ·injection hv with hA
  subst hA
  exact⟨_,rfl,(Array.getElem?_eq_some_iff.1 hh).1,h.cells (g:=g) rfl j u hu⟩
theorem Au.at_ (h:Au w B A n l) {k:Nat} {c:PG.Cl} (hk:l[k]? =some c): ∃ad,A=some ad/\ad.block<B/\ ∀j u,(c5 c)[j]? =some u->w.cell? (ad.add (k*5+j))=some u:=by
 obtain⟨ad,h1,h2,_⟩:=h.2 (k*5+0) _ (Gx l k 0 c _ hk rfl)
 refine⟨ad,h1,h2,fun j u hu=>?_⟩
 obtain⟨ad',h1',_,h3⟩:=h.2 (k*5+j) u (Gx l k j c u hk hu)
 rw [h1] at h1'
 injection h1' with e
 subst e
 exact h3
theorem Jg (ad:Addr) (x j:Nat) (hj:0<j):ad.add (x+j)=⟨(ad.add x).block,(ad.add x).off+j,none⟩:=by
 unfold Addr.add
 by_cases hx:x=0
 ·subst hx
  simp
  omega
 ·rw [if_neg (by omega),if_neg hx]
  simp [Nat.add_assoc]
theorem Au.five (h:Au w B A n l) {k:Nat} {c:PG.Cl} (hk:l[k]? =some c): ∃ad,A=some ad/\ad.block<B/\w.cell? (ad.add (k*5))=some (.int .i32 (PG.rn c))/\w.cell? ⟨(ad.add (k*5)).block,(ad.add (k*5)).off+1,none⟩=some (.int .i64 (PG.kd c))/\
  w.cell? ⟨(ad.add (k*5)).block,(ad.add (k*5)).off+2,none⟩=some (.int .i64 (PG.pn c).1)/\w.cell? ⟨(ad.add (k*5)).block,(ad.add (k*5)).off+3,none⟩=some (.int .i64 (PG.pn c).2.1)/\w.cell? ⟨(ad.add (k*5)).block,(ad.add (k*5)).off+4,none⟩=some (.int .i64 (PG.pn c).2.2):=by
 obtain⟨ad,h1,h2,h3⟩:=h.at_ hk
 refine⟨ad,h1,h2,h3 0 _ rfl,?_,?_,?_,?_⟩
 ·rw [<- Jg ad (k*5) 1 (by omega)];exact h3 1 _ rfl
 ·rw [<- Jg ad (k*5) 2 (by omega)];exact h3 2 _ rfl
 ·rw [<- Jg ad (k*5) 3 (by omega)];exact h3 3 _ rfl
 ·rw [<- Jg ad (k*5) 4 (by omega)];exact h3 4 _ rfl
theorem Au.drop (h:Au w B A n l) {k cap:Nat} (hk:k<=n) (hc:n<=cap):Au w B (if cap=k then A else A.map (·.add (k*5))) (n-k) (l.drop k):=by
 have:=Seen.drop h (k:=k*5) (cap:=cap*5) (by omega) (by omega)
 unfold Au
 rw [<- Kj]
 have e:(if cap=k then A else A.map (·.add (k*5)))=(if cap*5=k*5 then A else A.map (·.add (k*5))):=by
  by_cases h:cap=k
  ·rw [if_pos h,if_pos (by omega)]
  ·rw [if_neg h,if_neg (by omega)]
 rw [e,show(n-k)*5=n*5-k*5 from by omega]
 exact this
theorem Au.take (h:Au w B A n l) {k:Nat} (hk:k<=n):Au w B A k (l.take k):=by
 unfold Au
 rw [<- Ki]
 exact Seen.take h (by omega)
end
def Ci (w:World) (g o:Nat) (c:PG.Cl):World:=((((w.setCell ⟨g,o,none⟩ (.int .i32 (PG.rn c))).setCell ⟨g,o+1,none⟩ (.int .i64 (PG.kd c))).setCell ⟨g,o+2,none⟩ (.int .i64 (PG.pn c).1)).setCell ⟨g,o+3,none⟩ (.int .i64 (PG.pn c).2.1)).setCell ⟨g,o+4,none⟩ (.int .i64 (PG.pn c).2.2)
theorem Rj {w w1 w2 w3 w4 w5:World} {r:Option Nat} (h1:w.grownBy w1 r) (h2:w1.grownBy w2 r) (h3:w2.grownBy w3 r) (h4:w3.grownBy w4 r) (h5:w4.grownBy w5 r):w.grownBy w5 r:=by
 have two: ∀{a b c:World},a.grownBy b r->b.grownBy c r->a.grownBy c r:=fun h k=>
  ⟨k.os.trans h.os,k.tape.trans h.tape,k.output.trans h.output,Nat.le_trans h.size k.size,fun i hi hne=>(k.block i (Nat.lt_of_lt_of_le hi h.size) hne).trans (h.block i hi hne)⟩
 exact two (two (two (two h1 h2) h3) h4) h5
theorem Eo {w:World} {base n g cap:Nat} {e:TypeId} {l:List PG.Cl} (h:w.ownsRow base e 5 (.slice (some ⟨g,0,none⟩) n cap) n (Ag l)) {k:Nat} (c:PG.Cl) (hk:k<n) (hl:l.length=n):
  (Ci w g (k*5) c).ownsRow base e 5 (.slice (some ⟨g,0,none⟩) n cap) n (Ag (l.set k c))/\w.grownBy (Ci w g (k*5) c) (some g):=by
 obtain⟨h1,g1⟩:=h.stored (k*5) (.int .i32 (PG.rn c))
 obtain⟨h2,g2⟩:=h1.stored (k*5+1) (.int .i64 (PG.kd c))
 obtain⟨h3,g3⟩:=h2.stored (k*5+2) (.int .i64 (PG.pn c).1)
 obtain⟨h4,g4⟩:=h3.stored (k*5+3) (.int .i64 (PG.pn c).2.1)
 obtain⟨h5,g5⟩:=h4.stored (k*5+4) (.int .i64 (PG.pn c).2.2)
 refine⟨?_,?_⟩
 ·rw [<- Le l k c (by omega)]
  exact h5
 ·exact Rj g1 g2 g3 g4 g5
theorem IK {w:World} {base n g cap:Nat} {e:TypeId} {l:List PG.Cl} (h:w.ownsRow base e 5 (.slice (some ⟨g,0,none⟩) n cap) n (Ag l)) {k:Nat} {c:PG.Cl} (hk:l[k]? =some c):
  w.cell? ⟨g,k*5,none⟩=some (.int .i32 (PG.rn c))/\w.cell? ⟨g,k*5+1,none⟩=some (.int .i64 (PG.kd c))/\w.cell? ⟨g,k*5+2,none⟩=some (.int .i64 (PG.pn c).1)/\w.cell? ⟨g,k*5+3,none⟩=some (.int .i64 (PG.pn c).2.1)/\w.cell? ⟨g,k*5+4,none⟩=some (.int .i64 (PG.pn c).2.2)/\
  w.frozen? ⟨g,k*5,none⟩=false/\w.frozen? ⟨g,k*5+1,none⟩=false/\w.frozen? ⟨g,k*5+2,none⟩=false/\w.frozen? ⟨g,k*5+3,none⟩=false/\w.frozen? ⟨g,k*5+4,none⟩=false:=by
 have at_: ∀j u,(c5 c)[j]? =some u->w.cell? ⟨g,k*5+j,none⟩=some u:=fun j u hu=>by
  have h1:=Gx l k j c u hk hu
  have:=h.cells (g:=g) rfl (k*5+j) u h1
  rw [Addr.add_lit,Nat.zero_add] at this
  exact this
 exact⟨at_ 0 _ rfl,at_ 1 _ rfl,at_ 2 _ rfl,at_ 3 _ rfl,at_ 4 _ rfl,h.frozenAt _,h.frozenAt _,h.frozenAt _,h.frozenAt _,h.frozenAt _⟩
theorem fU {P:Program} {w:World} {o:Oper} {a:Act} {K:Act->World->Prop} {Q:Exit->Act->World->Prop} (s x:Operand) (t:TypeId)
  (ho:o.op=.call {callee:=.builtin .append,args:= #[s,x],argTypes:= #[t,t]})
  (base:Nat) (e:TypeId) (i:TypeInfo) (z:Value) (bytes:Nat) (ht:P.underlying t=some (.slice e)) (hi:P.info? e=some i) (hz:i.zero=some z)
  (hsize:i.size=5) (hby:i.bytes=bytes) (hzs:z.cells.size=5)
  (v:Value) (n:Nat) (xs:List PG.Cl) (hs:a.eval s=v) (hown:w.ownsRow base e 5 v n (Ag xs))
  (B:Nat) (A:Option Addr) (m c:Nat) (ys:List PG.Cl) (hx:a.eval x=.slice A m c) (hy:Au w B A m ys) (hb8:bytes<=64) (hn:n+m<=1099511627776) (hbase:base<=w.heap.size)
  (h: ∀v' w',w'.ownsRow base e 5 v' (n+m) (Ag (xs++ys))->w.grownBy w' v.ownBlock->Moved w v v'->K (a.put o.dst v') w'):
  o.wp P a w K Q:=by
 rw [Gf] at h
 have hlen:=hy.len
 rcases A with _ | ad
 ·have hn0:ys= [] :=by
   rcases ys with _ | ⟨y,ys⟩
   ·rfl
   ·obtain⟨ad,h0,_⟩:=hy.at_ (k:=0) rfl
    cases h0
  subst hn0
  have hm:m=0:=by simpa using hlen.symm
  subst hm
  have hrun:(Builtin.append_ #[t,t] o.type #[v,.slice none 0 c]).run P w=.ok v w:=by
   rcases hown.2 with ⟨rfl,rfl⟩ | ⟨g,cap,cur,rfl,_,_,hnc,_⟩
   ·simp [Builtin.append_,run_underlying ht,sizeOf,typeInfo,hi,Builtin.lenOf,Builtin.firstCells]
   ·simp [Builtin.append_,run_underlying ht,sizeOf,typeInfo,hi,Builtin.lenOf,Builtin.firstCells,hnc,storeCells]
  unfold Oper.wp
  simp [execOp,ho,resolve,invoke,builtin,hs,hx,hrun,Result.andThen]
  exact h v w (by simpa [Ag] using hown) (LJ _ _) (.inl rfl)
 ·obtain⟨v',w',hr,h2,h3,_,h5⟩:=run_append_own_at (P:=P) w base t o.type e i z 5 bytes ht hi hz hsize hby hzs (by omega) v n (Ag xs) hown ad m c (Ag ys) hy.1 (fun j u hu=>by
   obtain⟨ad',h1,_,h3⟩:=hy.2 j u hu
   injection h1 with h1
   subst h1
   exact h3) (Ld ys) (by simp only [maxLen];omega) (by have:(n+m)*bytes<=1099511627776*64:=Nat.mul_le_mul hn hb8;omega) hbase
  unfold Oper.wp execOp
  simp only [ho,resolve,invoke,builtin,Sem.run_bind,Sem.run_pure,Result.andThen_ok,List.map_toArray,List.map_cons,List.map_nil,hs,hx,hr]
  refine h v' w' h2 h3 ?_
  rcases h5 with hat | hat
  ·exact .inl hat
  ·exact .inr ⟨_,hat,Nat.le_refl _⟩
theorem P7 {P:Program} {w:World} {ops:Array Oper} {rest:List Oper} {o:Oper} {a:Act} {Q:Exit->Act->World->Prop} (hgd:o.guard=none) (s x:Operand) (t:TypeId)
  (ho:o.op=.call {callee:=.builtin .append,args:= #[s,x],argTypes:= #[t,t]})
  (base:Nat) (e:TypeId) (i:TypeInfo) (z:Value) (bytes:Nat) (ht:P.underlying t=some (.slice e)) (hi:P.info? e=some i) (hz:i.zero=some z)
  (hsize:i.size=5) (hby:i.bytes=bytes) (hzs:z.cells.size=5)
  (v:Value) (n:Nat) (xs:List PG.Cl) (hs:a.eval s=v) (hown:w.ownsRow base e 5 v n (Ag xs))
  (B:Nat) (A:Option Addr) (m c:Nat) (ys:List PG.Cl) (hx:a.eval x=.slice A m c) (hy:Au w B A m ys) (hb8:bytes<=64) (hn:n+m<=1099511627776) (hbase:base<=w.heap.size)
  (h: ∀v' w',w'.ownsRow base e 5 v' (n+m) (Ag (xs++ys))->w.grownBy w' v.ownBlock->Moved w v v'->wpList P ops Q rest (a.put o.dst v') w'):
  wpList P ops Q (o::rest) a w:=
 wpList_plain hgd fun _ hK=>fU s x t ho base e i z bytes ht hi hz hsize hby hzs v n xs hs hown B A m c ys hx hy hb8 hn hbase fun v' w' h2 h3 h4=>hK _ _ (h v' w' h2 h3 h4)
end Go.Proofs.YtoaabebgmdbjeaaGreatDoor
namespace Go.Proofs.YtoaabebgmdbjeaaGreatDoor
open Go.RowKit
def gv (R K:Nat) (s:Value):Value:=.agg #[.int .i64 R,.int .i64 K,s]
def P8:Value:=.agg #[.int .i32 0,.int .i64 0,.int .i64 0,.int .i64 0,.int .i64 0]
theorem DN:(Tryz.prog.info? 66).map (fun i=>(i.zero,i.size,i.bytes))=some (some P8,5,40):=by kernel_rfl
theorem YL {w:World} {base g:Nat} (e:TypeId) (hg:g=w.heap.size) (hb:base<=w.heap.size):(w.alloc (.cells #[] e)).ownsRow base e 5 (.slice (some ⟨g,0,none⟩) 0 0) 0 (Ag []):=by
 subst hg
 exact World.ownsRow_made w #[] 0 hb (Nat.zero_le _) rfl
theorem Ob {w w1:World} {t0 t1:TypeId} {cs ds:Array Value} (hg:Below ((w.alloc (.cells cs t0)).alloc (.cells ds t1)).heap.size ((w.alloc (.cells cs t0)).alloc (.cells ds t1)) w1):Box w1 w.heap.size t0 cs/\Box w1 (w.heap.size+1) t1 ds/\Below w.heap.size w w1:=by
 refine⟨((Box.new w t0 cs).alloc _).below hg (by simp;omega),?_,?_⟩
 ·have h:=Box.new (w.alloc (.cells cs t0)) t1 ds
  rw [show(w.alloc (.cells cs t0)).heap.size=w.heap.size+1 from by simp] at h
  exact h.below hg (by simp)
 ·exact(((Below.refl _ _).alloc (Nat.le_refl _) _).alloc (by simp) _).trans (hg.mono (by simp;omega))
def Jh (w:World) (R K:Nat) (l:List PG.Cl) (e:Ending) (w':World):Prop:= ∃v,e=.returned (gv R K v)/\w'.ownsRow w.heap.size 66 5 v l.length (Ag l)/\Below w.heap.size w w'
def spl (l:List PG.Cl) (x:Nat) (m:List PG.Cl):List PG.Cl:=l.take x++m++l.drop (x+m.length)
theorem Ua (l:List PG.Cl) (x:Nat):spl l x [] =l:=by simp [spl]
theorem D5 {l:List PG.Cl} {x:Nat} {m:List PG.Cl} (h:x+m.length<=l.length):(spl l x m).length=l.length:=by
 unfold spl
 simp only [List.length_append,List.length_take,List.length_drop]
 omega
theorem YM {l:List PG.Cl} {x:Nat} {m:List PG.Cl} (c:PG.Cl) (h:x+m.length<l.length):(spl l x m).set (x+m.length) c=spl l x (m++ [c]):=by
 unfold spl
 have hl:(l.take x++m).length=x+m.length:=by rw [List.length_append,List.length_take];omega
 rw [List.set_append_right _ _ (by omega),hl,Nat.sub_self,List.drop_eq_getElem_cons h,List.set_cons_zero,List.length_append,List.length_singleton]
 simp [List.append_assoc,Nat.add_assoc]
theorem Fe {w:World} {base n:Nat} {e:TypeId} {size:Nat} {v:Value} {xs:List Value} (h:w.ownsRow base e size v n xs) (hn:0<n): ∃g cap,v=.slice (some ⟨g,0,none⟩) n cap/\base<=g/\n<=cap/\cap<=maxLen:=by
 rcases h.2 with ⟨_,h0⟩ | ⟨g,cap,cur,rfl,hb,_,h1,h2,_⟩
 ·omega
 ·exact⟨g,cap,rfl,hb,h1,h2⟩
end Go.Proofs.YtoaabebgmdbjeaaGreatDoor
namespace Go.Proofs.YtoaabebgmdbjeaaGreatDoor
open Go.RowKit
theorem Hu {P:Program} {w:World} {ops:Array Oper} {rest:List Oper} {o:Oper} {a:Act} {Q:Exit->Act->World->Prop} (h:wpList P ops Q (o::rest) a w):wpList P ops Q (o::rest) a w:=h
theorem YN {α:Type} (cur c:List α) (x n:Nat) (hx:x+c.length<=n) (hn:n<=cur.length):
  (cur.take x++c++cur.drop (x+c.length)).take n=(cur.take n).take x++c++(cur.take n).drop (x+c.length):=by
 have e1:(cur.take n).take x=cur.take x:=by rw [List.take_take,Nat.min_eq_left (by omega)]
 rw [e1,List.take_append,List.take_of_length_le (by simp;omega),List.drop_take]
 congr 2
 simp only [List.length_append,List.length_take]
 omega
theorem VW {P:Program} (w:World) (dT sT ty elem:TypeId) (i:TypeInfo) (hu:P.underlying dT=some (.slice elem)) (hi:P.info? elem=some i) (hsize:i.size=5)
  (base:Nat) (e:TypeId) (g y x n cap dLen dCap:Nat) (l:List PG.Cl) (hown:w.ownsRow base e 5 (.slice (some ⟨g,0,none⟩) n cap) n (Ag l)) (hyx:y=x*5)
  (A:Option Addr) (B sLen sCap m:Nat) (ys:List PG.Cl) (hm:Nat.min sLen dLen=m) (hs:Au w B A m ys) (hx:x+m<=n):
  ∃w',(Builtin.copy_ #[dT,sT] ty #[.slice (some ⟨g,y,none⟩) dLen dCap,.slice A sLen sCap]).run P w=.ok (goInt m) w'/\
   w'.ownsRow base e 5 (.slice (some ⟨g,0,none⟩) n cap) n (Ag (spl l x ys))/\w.grownBy w' (some g):=by
 subst hyx
 have hlen:=hs.len
 have hcl:=En ys
 rw [hlen] at hcl
 rcases hown.2 with ⟨h',_⟩ | ⟨g',cap',cur,h',hb,hg,hnc,hcm,hcs,htake⟩
 ·simp at h'
 simp only [Value.slice.injEq,Option.some.injEq,Addr.mk.injEq,and_true,true_and] at h'
 obtain⟨rfl,rfl⟩:=h'
 have hxn:x*5+(Ag ys).length<=n*5:=by rw [hcl];omega
 have hnc5:n*5<=cap*5:=by omega
 have hst:=run_storeCells_at P g (x*5) e (Ag ys) 0 cur w hg (by rw [hcs];omega) (Ld ys)
 simp only [Nat.add_zero] at hst
 refine⟨w.setRow g (cur.toList.take (x*5)++Ag ys++cur.toList.drop (x*5+(Ag ys).length)).toArray,?_,⟨?_,.inr ⟨g,cap,_,rfl,hb,setRow_heap w g cur _ e (0,0) hg,hnc,hcm,?_,?_⟩⟩,?_⟩
 ·rcases A with _ | ad
  ·have hm0:ys= [] :=by
    rcases ys with _ | ⟨c,ys⟩
    ·rfl
    ·obtain⟨ad,h0,_⟩:=hs.at_ (k:=0) rfl
     cases h0
   subst hm0
   obtain rfl:m=0:=by simpa using hlen.symm
   simp only [Ri,List.length_nil] at hst⊢
   simp [Builtin.copy_,run_underlying hu,Builtin.lenOf,Builtin.firstCells,sizeOf,typeInfo,hi,hm,hst]
  ·have hl:=run_loadCells_list (P:=P) w ad (Ag ys) (fun j v hv=>by
    obtain⟨ad',h1,_,h3⟩:=hs.2 j v hv
    injection h1 with h1
    subst h1
    exact h3)
   rw [hcl] at hl
   simp [Builtin.copy_,run_underlying hu,Builtin.lenOf,Builtin.firstCells,sizeOf,typeInfo,hi,hsize,hm,hl,hst]
 ·have h1:=hown.1
  rw [En] at h1⊢
  rw [D5 (by omega)]
  exact h1
 ·have e1:(Ag ys).length<=cur.size:=by omega
  simp only [List.size_toArray,List.length_append,List.length_take,List.length_drop,Array.length_toList]
  omega
 ·rw [List.toList_toArray,YN _ _ _ _ hxn (by rw [Array.length_toList];omega),htake,hcl]
  unfold spl
  rw [Gf,Gf, <- Ki, <- Kj,hlen,show x*5+m*5=(x+m)*5 by omega]
 ·exact⟨rfl,rfl,rfl,by simp [World.setRow],fun k _ hk=>setRow_other w g k _ (fun e=>hk (by rw [e]))⟩
theorem Ck {P:Program} {w:World} {ops:Array Oper} {rest:List Oper} {o:Oper} {a:Act} {Q:Exit->Act->World->Prop} (hgd:o.guard=none) (d s:Operand) (dT sT:TypeId)
  (ho:o.op=.call {callee:=.builtin .copy,args:= #[d,s],argTypes:= #[dT,sT]}) (elem:TypeId) (i:TypeInfo) (hu:P.underlying dT=some (.slice elem)) (hi:P.info? elem=some i) (hsize:i.size=5)
  (base:Nat) (e:TypeId) (g y x n cap dLen dCap:Nat) (l:List PG.Cl) (hd:a.eval d=.slice (some ⟨g,y,none⟩) dLen dCap) (hown:w.ownsRow base e 5 (.slice (some ⟨g,0,none⟩) n cap) n (Ag l)) (hyx:y=x*5)
  (A:Option Addr) (B sLen sCap m:Nat) (ys:List PG.Cl) (hsv:a.eval s=.slice A sLen sCap) (hm:Nat.min sLen dLen=m) (hs:Au w B A m ys) (hx:x+m<=n)
  (h: ∀w',w'.ownsRow base e 5 (.slice (some ⟨g,0,none⟩) n cap) n (Ag (spl l x ys))->w.grownBy w' (some g)->wpList P ops Q rest (a.put o.dst (goInt m)) w'):
  wpList P ops Q (o::rest) a w:=by
 refine wpList_plain hgd fun K hK=>?_
 obtain⟨w',hrun,h1,h2⟩:=VW (P:=P) w dT sT o.type elem i hu hi hsize base e g y x n cap dLen dCap l hown hyx A B sLen sCap m ys hm hs hx
 unfold Oper.wp
 simp [execOp,ho,resolve,invoke,builtin,hd,hsv,hrun,Result.andThen]
 exact hK _ _ (h w' h1 h2)
theorem Rk {P:Program} (w:World) (dT sT ty elem:TypeId) (i:TypeInfo) (hu:P.underlying dT=some (.slice elem)) (hi:P.info? elem=some i)
  (D A:Option Addr) (dLen dCap sLen sCap:Nat) (hm:Nat.min sLen dLen=0):
  (Builtin.copy_ #[dT,sT] ty #[.slice D dLen dCap,.slice A sLen sCap]).run P w=.ok (goInt 0) w:=by
 have hl: ∀ad,(loadCells ad 0).run P w=.ok #[] w:=fun ad=>run_loadCells_list (P:=P) w ad [] (fun j v hv=>by simp at hv)
 rcases A with _ | ad<;>rcases D with _ | d<;>
  simp [Builtin.copy_,run_underlying hu,Builtin.lenOf,Builtin.firstCells,sizeOf,typeInfo,hi,hm,storeCells,hl]
theorem Iy {P:Program} {w:World} {ops:Array Oper} {rest:List Oper} {o:Oper} {a:Act} {Q:Exit->Act->World->Prop} (hgd:o.guard=none) (d s:Operand) (dT sT:TypeId)
  (ho:o.op=.call {callee:=.builtin .copy,args:= #[d,s],argTypes:= #[dT,sT]}) (elem:TypeId) (i:TypeInfo) (hu:P.underlying dT=some (.slice elem)) (hi:P.info? elem=some i)
  (D A:Option Addr) (dLen dCap sLen sCap:Nat) (hd:a.eval d=.slice D dLen dCap) (hsv:a.eval s=.slice A sLen sCap) (hm:Nat.min sLen dLen=0)
  (h:wpList P ops Q rest (a.put o.dst (goInt 0)) w):wpList P ops Q (o::rest) a w:=by
 refine wpList_plain hgd fun K hK=>?_
 have hrun:=Rk (P:=P) w dT sT o.type elem i hu hi D A dLen dCap sLen sCap hm
 unfold Oper.wp
 simp [execOp,ho,resolve,invoke,builtin,hd,hsv,hrun,Result.andThen]
 exact hK _ _ h
theorem JE (n:Nat):(madeCells P8.cells (n*5)).toList=Ag (List.replicate n PG.none):=by
 have hz:P8.cells= #[.int .i32 0,.int .i64 0,.int .i64 0,.int .i64 0,.int .i64 0] :=rfl
 refine List.ext_getElem? fun j=>?_
 by_cases hj:j<n*5
 ·have hk:j / 5<n:=by omega
  have hr:(List.replicate n PG.none)[j / 5]? =some PG.none:=by rw [List.getElem?_replicate,if_pos hk]
  have h5:j%5<5:=by omega
  have hu: ∃u,(c5 PG.none)[j%5]? =some u/\P8.cells[j%P8.cells.size]! =u:=by
   rw [hz]
   have hs:(#[Value.int .i32 0,.int .i64 0,.int .i64 0,.int .i64 0,.int .i64 0] :Array Value).size=5:=rfl
   rw [hs]
   generalize j%5=k at h5
   obtain rfl | rfl | rfl | rfl | rfl:k=0\/k=1\/k=2\/k=3\/k=4:=by omega
   all_goals exact⟨_,rfl,rfl⟩
  obtain⟨u,h1,h2⟩:=hu
  have h3:=Gx _ _ _ _ _ hr h1
  rw [show j / 5*5+j%5=j by omega] at h3
  rw [h3]
  unfold madeCells
  rw [Array.toList_map,Array.toList_range,List.getElem?_map,List.getElem?_range hj,Option.map_some,h2]
 ·rw [List.getElem?_eq_none (by simp [madeCells];omega),List.getElem?_eq_none (by rw [En,List.length_replicate];omega)]
theorem add0 (g k:Nat):(⟨g,0,none⟩:Addr).add k=⟨g,k,none⟩:=by rw [Addr.add_lit,Nat.zero_add]
theorem Kept.IL {w w':World} {r:Option Nat} (h:w.grownBy w' r):Kept [r] w w':=⟨h.os,h.tape,h.output,h.size,fun i hi hn=>h.block i hi (by simpa using hn)⟩
theorem Ub {l m:List PG.Cl} (h:m.length=l.length):spl l 0 m=m:=by
 unfold spl
 rw [List.take_zero,List.nil_append,Nat.zero_add,List.drop_of_length_le (by omega),List.append_nil]
end Go.Proofs.YtoaabebgmdbjeaaGreatDoor
namespace Go.Proofs.YtoaabebgmdbjeaaGreatDoor
open Go.RowKit
def fnL (l:List PG.Cl) (j:Nat):PG.Cl:=(l[j]?).getD PG.none
def Dn (l:List PG.Cl):List PG.Cl:=(List.range l.length).map (PG.mend (fnL l) l.length)
theorem Ed (l:List PG.Cl):(Dn l).length=l.length:=by simp [Dn]
theorem YO {l:List PG.Cl} {k:Nat} (hk:k<l.length):(Dn l)[k]? =some (PG.mend (fnL l) l.length k):=by
 unfold Dn
 rw [List.getElem?_map,List.getElem?_range hk]
 rfl
theorem JF {l:List PG.Cl} {k:Nat} {c:PG.Cl} (hk:l[k]? =some c):fnL l k=c:=by unfold fnL;rw [hk];rfl
end Go.Proofs.YtoaabebgmdbjeaaGreatDoor
namespace Go.Proofs.YtoaabebgmdbjeaaGreatDoor
open Go.RowKit
def Dp (l:List PG.Cl) (a b:Nat) (p:PG.Pn):List PG.Cl:=(List.range l.length).map (PG.E5 (fnL l) a b p)
theorem Ee (l:List PG.Cl) (a b:Nat) (p:PG.Pn):(Dp l a b p).length=l.length:=by simp [Dp]
theorem Lf {l:List PG.Cl} {a b k:Nat} {p:PG.Pn} (hk:k<l.length):(Dp l a b p)[k]? =some (PG.E5 (fnL l) a b p k):=by
 unfold Dp
 rw [List.getElem?_map,List.getElem?_range hk]
 rfl
theorem Ep (l:List PG.Cl) (a b:Nat) (p:PG.Pn) (h:b<=a):Dp l a b p=l:=by
 refine List.ext_getElem? fun k=>?_
 by_cases hk:k<l.length
 ·rw [Lf hk]
  unfold PG.E5
  rw [if_neg (by omega)]
  unfold fnL
  rw [List.getElem?_eq_getElem hk]
  rfl
 ·rw [List.getElem?_eq_none (by rw [Ee];omega),List.getElem?_eq_none (by omega)]
theorem NZ {l:List PG.Cl} {a k:Nat} (p:PG.Pn) (ha:a<=k) (hk:k<l.length):(Dp l a k p).set k (PG.blank p)=Dp l a (k+1) p:=by
 refine List.ext_getElem? fun j=>?_
 by_cases hj:j<l.length
 ·rw [Lf hj]
  by_cases e:j=k
  ·subst e
   rw [List.getElem?_set_self (by rw [Ee];exact hj)]
   unfold PG.E5
   rw [if_pos (by omega)]
  ·rw [List.getElem?_set_ne (by omega),Lf hj]
   unfold PG.E5
   by_cases h:a<=j/\j<k
   ·rw [if_pos h,if_pos (by omega)]
   ·rw [if_neg h,if_neg (by omega)]
 ·rw [List.getElem?_eq_none (by rw [List.length_set,Ee];omega),List.getElem?_eq_none (by rw [Ee];omega)]
end Go.Proofs.YtoaabebgmdbjeaaGreatDoor
namespace Go.Proofs.YtoaabebgmdbjeaaGreatDoor
open Go.RowKit
theorem P9 (c:Int) (w:World):Calls Tryz.prog 130 #[.int .i64 c] w fun e w'=>e=.returned (.bool (C.col c))/\w=w':=by
 have cs:c< -1\/c= -1\/(0<=c/\c<=255)\/(255<c/\c<16777216)\/(16777216<=c/\c<33554432)\/33554432<=c:=by omega
 have hr: ∀b:Bool,(b=true<->(c= -1\/(0<=c/\c<=255)\/(16777216<=c/\c<33554432)))->Ending.returned (.bool b)=.returned (.bool (C.col c)):=fun b hb=>LP (by rw [Bool.eq_iff_iff,hb,C.Ih])
 have HR:=Lib.hid hr
 clear hr
 rcases cs with h | h | h | h | h | h
 ·have q:(c== -1)=false:=by simp;omega
  go_enter Tryz.func130,Tryz.ntmps130
  go_wp2
  go_ret
  exact⟨HR.out _ (by simp;omega),rfl⟩
 ·subst h
  go_enter Tryz.func130,Tryz.ntmps130
  go_wp2
  go_ret
  exact⟨HR.out _ (by simp),rfl⟩
 all_goals
  have q:(c== -1)=false:=by simp;omega
  go_enter Tryz.func130,Tryz.ntmps130
  go_wp2
  go_ret
  exact⟨HR.out _ (by simp;omega),rfl⟩
theorem Fg (c:Int) (b:Bool) (h:C.col c=b) (w:World):Calls Tryz.prog 130 #[.int .i64 c] w fun e w'=>e=.returned (.bool b)/\w=w':=by
 subst h
 exact P9 c w
theorem Na (f b g:Int) (w:World):Calls Tryz.prog 94 #[.agg #[.int .i64 f,.int .i64 b,.int .i64 g]] w fun e w'=>e=.returned (.bool (C.right f b g))/\w.alloc (.cells #[.int .i64 f,.int .i64 b,.int .i64 g] 38)=w':=by
 have hr: ∀r:Bool,r=C.right f b g->Ending.returned (.bool r)=.returned (.bool (C.right f b g)):=fun r h=>LP h
 have HR:=Lib.hid hr
 clear hr
 have cg:g<0\/(0<=g/\g<=255)\/255<g:=by omega
 rcases h1:C.col f with _ | _
 ·have e:false=C.right f b g:=by simp [C.right,h1]
  have E:=Lib.hid e
  have c1:=fun w'=>Fg f _ h1 w'
  clear h1 e cg
  go_enter Tryz.func94,Tryz.ntmps94
  go_wp2_with (go_at_call 130;refine(c1 _).mono ?_;rintro e w' ⟨rfl,rfl⟩)
  go_ret
  exact⟨HR.out _ E.out,rfl⟩
 rcases h2:C.col b with _ | _
 ·have e:false=C.right f b g:=by simp [C.right,h2]
  have E:=Lib.hid e
  have c1:=fun w'=>Fg f _ h1 w'
  have c2:=fun w'=>Fg b _ h2 w'
  clear h1 h2 e cg
  go_enter Tryz.func94,Tryz.ntmps94
  go_wp2_with fail
  refine(c1 _).mono ?_
  rintro e w' ⟨rfl,rfl⟩
  go_wp2_with fail
  refine(c2 _).mono ?_
  rintro e w' ⟨rfl,rfl⟩
  go_wp2_with fail
  go_ret
  exact⟨HR.out _ E.out,rfl⟩
 have c1:=fun w'=>Fg f _ h1 w'
 have c2:=fun w'=>Fg b _ h2 w'
 have e:decide (0<=g/\g<=255)=C.right f b g:=by simp [C.right,h1,h2]
 have E:=Lib.hid e
 clear h1 h2 e
 rcases cg with h | h | h
 all_goals
  go_enter Tryz.func94,Tryz.ntmps94
  go_wp2_with fail
  refine(c1 _).mono ?_
  rintro e w' ⟨rfl,rfl⟩
  go_wp2_with fail
  refine(c2 _).mono ?_
  rintro e w' ⟨rfl,rfl⟩
  go_wp2_with fail
  go_ret
  exact⟨HR.out _ (by rw [<- E.out];simp;omega),rfl⟩
theorem YP (f b g:Int) (r:Bool) (h:C.right f b g=r) (w:World):Calls Tryz.prog 94 #[.agg #[.int .i64 f,.int .i64 b,.int .i64 g]] w fun e w'=>e=.returned (.bool r)/\w.alloc (.cells #[.int .i64 f,.int .i64 b,.int .i64 g] 38)=w':=by
 subst h
 exact Na f b g w
theorem VX (w:World):Calls Tryz.prog 53 #[] w fun e w'=>e=.returned (.agg #[.int .i64 (-1),.int .i64 (-1),.int .i64 0])/\w.alloc (.cells #[.int .i64 (-1),.int .i64 (-1),.int .i64 0] 38)=w':=by
 go_enter Tryz.func53,Tryz.ntmps53
 go_wp2
 exact bodyPost_ret (v:=.agg #[.int .i64 (-1),.int .i64 (-1),.int .i64 0]) (by simp [results,Tryz.results53,go_sem]) rfl ⟨rfl,rfl⟩
theorem FP (f b g:Int) (w:World):Calls Tryz.prog 97 #[.agg #[.int .i64 f,.int .i64 b,.int .i64 g]] w fun e w'=>e=.returned (.agg #[.int .i32 32,.int .i64 0,.int .i64 f,.int .i64 b,.int .i64 g])/\Below w.heap.size w w':=by
 go_enter Tryz.func97,Tryz.ntmps97
 go_wp2
 exact bodyPost_ret (v:=.agg #[.int .i32 32,.int .i64 0,.int .i64 f,.int .i64 b,.int .i64 g]) (by simp [results,Tryz.results97,go_sem]) rfl ⟨rfl,((Below.refl _ _).alloc (Nat.le_refl _) _).alloc (by simp) _⟩
end Go.Proofs.YtoaabebgmdbjeaaGreatDoor
namespace Go.Proofs.YtoaabebgmdbjeaaGreatDoor
open Go.RowKit
def spanCells:Array Value:= #[.int .i32 127,.int .i32 159,.int .i64 0,.int .i32 768,.int .i32 879,.int .i64 0,.int .i32 4352,.int .i32 4447,.int .i64 2,.int .i32 11904,.int .i32 42191,.int .i64 2,.int .i32 44032,.int .i32 55203,.int .i64 2,.int .i32 55296,.int .i32 57343,.int .i64 0,.int .i32 63744,.int .i32 64255,.int .i64 2,.int .i32 65072,.int .i32 65135,.int .i64 2,.int .i32 65280,.int .i32 65376,.int .i64 2,.int .i32 65504,.int .i32 65510,.int .i64 2,.int .i32 127744,.int .i32 129791,.int .i64 2,.int .i32 131072,.int .i32 262141,.int .i64 2]
def D6 (w:World):Prop:= ∃t,w.heap[0]? =some (.cells spanCells t (0,0))
theorem D6.lt {w:World} (h:D6 w):0<w.heap.size:=by
 obtain⟨t,h⟩:=h
 exact(Array.getElem?_eq_some_iff.1 h).1
theorem D6.below {w w':World} {B:Nat} (h:D6 w) (hb:Below B w w') (hB:0<B):D6 w':=by
 obtain⟨t,h⟩:=h
 exact⟨t,(hb.block _ hB).trans h⟩
theorem D6.keep {w w':World} (h:D6 w) (hb:Below w.heap.size w w'):D6 w':=h.below hb h.lt
theorem kr:Tryz.prog.globalNamed "linguist/cell.spans" =some 0:=by kernel_rfl
theorem ku:(Tryz.prog.globals[0]?).map (·.type)=some 137:=by kernel_rfl
theorem Rl:tiled Tryz.prog 4 137=true:=by kernel_rfl
theorem VY:flat (H:=Unit) Rows.laid_linguist_cell_spans=some spanCells.toList:=by rfl
theorem Rm {w:World} {l:List (String × DataW Unit)} (h:laidMet Tryz.prog l w) (hm:("linguist/cell.spans",Rows.laid_linguist_cell_spans)∈l):D6 w:=by
 obtain⟨t,ht⟩:=Db 4 kr ku Rl VY (by simp [spanCells]) h hm
 exact⟨t,by simpa using ht⟩
def spansFrom (k:Nat):List (Int × Int × Int):=C.spans.drop k
theorem og (w:World):(Instr.index 137 (.agg spanCells) (.int .i64 0)).run Tryz.prog w=.ok (.agg #[.int .i32 127,.int .i32 159,.int .i64 0]) w:=by kernel_rfl
theorem YQ:spansFrom 0=(127,159,0)::spansFrom 1:=rfl
theorem oh (w:World):(Instr.index 137 (.agg spanCells) (.int .i64 1)).run Tryz.prog w=.ok (.agg #[.int .i32 768,.int .i32 879,.int .i64 0]) w:=by kernel_rfl
theorem YR:spansFrom 1=(768,879,0)::spansFrom 2:=rfl
theorem om (w:World):(Instr.index 137 (.agg spanCells) (.int .i64 2)).run Tryz.prog w=.ok (.agg #[.int .i32 4352,.int .i32 4447,.int .i64 2]) w:=by kernel_rfl
theorem YS:spansFrom 2=(4352,4447,2)::spansFrom 3:=rfl
theorem oo (w:World):(Instr.index 137 (.agg spanCells) (.int .i64 3)).run Tryz.prog w=.ok (.agg #[.int .i32 11904,.int .i32 42191,.int .i64 2]) w:=by kernel_rfl
theorem YT:spansFrom 3=(11904,42191,2)::spansFrom 4:=rfl
theorem oq (w:World):(Instr.index 137 (.agg spanCells) (.int .i64 4)).run Tryz.prog w=.ok (.agg #[.int .i32 44032,.int .i32 55203,.int .i64 2]) w:=by kernel_rfl
theorem YU:spansFrom 4=(44032,55203,2)::spansFrom 5:=rfl
theorem ou (w:World):(Instr.index 137 (.agg spanCells) (.int .i64 5)).run Tryz.prog w=.ok (.agg #[.int .i32 55296,.int .i32 57343,.int .i64 0]) w:=by kernel_rfl
theorem YV:spansFrom 5=(55296,57343,0)::spansFrom 6:=rfl
theorem ow (w:World):(Instr.index 137 (.agg spanCells) (.int .i64 6)).run Tryz.prog w=.ok (.agg #[.int .i32 63744,.int .i32 64255,.int .i64 2]) w:=by kernel_rfl
theorem YW:spansFrom 6=(63744,64255,2)::spansFrom 7:=rfl
theorem oz (w:World):(Instr.index 137 (.agg spanCells) (.int .i64 7)).run Tryz.prog w=.ok (.agg #[.int .i32 65072,.int .i32 65135,.int .i64 2]) w:=by kernel_rfl
theorem YX:spansFrom 7=(65072,65135,2)::spansFrom 8:=rfl
theorem o7 (w:World):(Instr.index 137 (.agg spanCells) (.int .i64 8)).run Tryz.prog w=.ok (.agg #[.int .i32 65280,.int .i32 65376,.int .i64 2]) w:=by kernel_rfl
theorem YZ:spansFrom 8=(65280,65376,2)::spansFrom 9:=rfl
theorem o8 (w:World):(Instr.index 137 (.agg spanCells) (.int .i64 9)).run Tryz.prog w=.ok (.agg #[.int .i32 65504,.int .i32 65510,.int .i64 2]) w:=by kernel_rfl
theorem Ya:spansFrom 9=(65504,65510,2)::spansFrom 10:=rfl
theorem lC (w:World):(Instr.index 137 (.agg spanCells) (.int .i64 10)).run Tryz.prog w=.ok (.agg #[.int .i32 127744,.int .i32 129791,.int .i64 2]) w:=by kernel_rfl
theorem Rn:spansFrom 10=(127744,129791,2)::spansFrom 11:=rfl
theorem lD (w:World):(Instr.index 137 (.agg spanCells) (.int .i64 11)).run Tryz.prog w=.ok (.agg #[.int .i32 131072,.int .i32 262141,.int .i64 2]) w:=by kernel_rfl
theorem Ro:spansFrom 11=(131072,262141,2)::spansFrom 12:=rfl
theorem lF (x:Int):C.find (spansFrom 12) x=1:=rfl
theorem Rp:(Tryz.prog.info? 137).map (·.size)=some spanCells.size:=by kernel_rfl
theorem KF (r:Int) (w:World) (hr0: -2147483648<=r) (hr1:r<=2147483647) (hs:D6 w):
  Calls Tryz.prog 63 #[.int .i32 r] w fun e w'=>e=.returned (.int .i64 (C.width r))/\Below w.heap.size w w':=by
 have HE: ∀x:Int,x=C.width r->Ending.returned (.int .i64 x)=.returned (.int .i64 (C.width r)):=fun x h=>CV h
 have HR:=Lib.hid HE
 clear HE
 by_cases h0:r<32
 ·go_enter Tryz.func63,Tryz.ntmps63
  go_wp2
  go_ret
  exact⟨HR.out _ (by unfold C.width;rw [if_pos (by omega)]),Below.refl _ _⟩
 by_cases h1:1114111<r
 ·go_enter Tryz.func63,Tryz.ntmps63
  go_wp2
  go_ret
  exact⟨HR.out _ (by unfold C.width;rw [if_pos (by omega)]),Below.refl _ _⟩
 have hw:C.width r=C.find (spansFrom 0) r:=by
  unfold C.width
  rw [if_neg (by omega)]
  rfl
 have HW:=Lib.hid hw
 clear hw
 obtain⟨tt,hg⟩:=hs
 have lt:0<w.heap.size:=(Array.getElem?_eq_some_iff.1 hg).1
 have i0:=og
 have i1:=oh
 have i2:=om
 have i3:=oo
 have i4:=oq
 have i5:=ou
 have i6:=ow
 have i7:=oz
 have i8:=o7
 have i9:=o8
 have i10:=lC
 have i11:=lD
 have hsz:spanCells.size=36:=rfl
 generalize hcs:spanCells=cs at hg hsz i0 i1 i2 i3 i4 i5 i6 i7 i8 i9 i10 i11
 have Uc:(Tryz.prog.info? 137).map (·.size)=some cs.size:=by rw [<- hcs];exact Rp
 have SC:=hide Uc
 clear hcs hsz Uc
 go_enter Tryz.func63,Tryz.ntmps63
 go_wp2_with (refine wpList_load_row rfl 137 _ rfl 0 rfl tt cs (0,0) _ hg Tryz.underlying137 rfl SC.out ?_)
 go_loopw [12] (fun i wr=> ∃k:Nat,k<=12/\i=.int .i64 k/\C.find (spansFrom k) r=C.width r/\Below w.heap.size w wr) (fun i _=>12-(intOf i).toNat)
 case atStart=>exact⟨0,by omega,rfl,HW.out.symm,Below.refl _ _⟩
 case round=>
  obtain⟨k,hk,rfl,hf,hbel⟩:=hrel
  have hsz:=hbel.size
  have HF:=hide hf
  clear hf
  obtain hlt | rfl:k<12\/k=12:=by omega
  ·obtain rfl | rfl | rfl | rfl | rfl | rfl | rfl | rfl | rfl | rfl | rfl | rfl:k=0\/k=1\/k=2\/k=3\/k=4\/k=5\/k=6\/k=7\/k=8\/k=9\/k=10\/k=11:=by omega
   ·by_cases ha:r<127
    ·go_wp2
     go_roundw
     case rel=>exact⟨1,by omega,by go_num,by rw [<- HF.out,YQ,C.Ay (by omega)],hbel.alloc hsz _⟩
     case measure=>simp [intOf]
    by_cases hb:159<r
    ·go_wp2
     go_roundw
     case rel=>exact⟨1,by omega,by go_num,by rw [<- HF.out,YQ,C.Ay (by omega)],hbel.alloc hsz _⟩
     case measure=>simp [intOf]
    ·go_wp2
     go_ret
     exact⟨HR.out _ (by rw [<- HF.out,YQ,C.Bn (by omega)]),hbel.alloc hsz _⟩
   ·by_cases ha:r<768
    ·go_wp2
     go_roundw
     case rel=>exact⟨2,by omega,by go_num,by rw [<- HF.out,YR,C.Ay (by omega)],hbel.alloc hsz _⟩
     case measure=>simp [intOf]
    by_cases hb:879<r
    ·go_wp2
     go_roundw
     case rel=>exact⟨2,by omega,by go_num,by rw [<- HF.out,YR,C.Ay (by omega)],hbel.alloc hsz _⟩
     case measure=>simp [intOf]
    ·go_wp2
     go_ret
     exact⟨HR.out _ (by rw [<- HF.out,YR,C.Bn (by omega)]),hbel.alloc hsz _⟩
   ·by_cases ha:r<4352
    ·go_wp2
     go_roundw
     case rel=>exact⟨3,by omega,by go_num,by rw [<- HF.out,YS,C.Ay (by omega)],hbel.alloc hsz _⟩
     case measure=>simp [intOf]
    by_cases hb:4447<r
    ·go_wp2
     go_roundw
     case rel=>exact⟨3,by omega,by go_num,by rw [<- HF.out,YS,C.Ay (by omega)],hbel.alloc hsz _⟩
     case measure=>simp [intOf]
    ·go_wp2
     go_ret
     exact⟨HR.out _ (by rw [<- HF.out,YS,C.Bn (by omega)]),hbel.alloc hsz _⟩
   ·by_cases ha:r<11904
    ·go_wp2
     go_roundw
     case rel=>exact⟨4,by omega,by go_num,by rw [<- HF.out,YT,C.Ay (by omega)],hbel.alloc hsz _⟩
     case measure=>simp [intOf]
    by_cases hb:42191<r
    ·go_wp2
     go_roundw
     case rel=>exact⟨4,by omega,by go_num,by rw [<- HF.out,YT,C.Ay (by omega)],hbel.alloc hsz _⟩
     case measure=>simp [intOf]
    ·go_wp2
     go_ret
     exact⟨HR.out _ (by rw [<- HF.out,YT,C.Bn (by omega)]),hbel.alloc hsz _⟩
   ·by_cases ha:r<44032
    ·go_wp2
     go_roundw
     case rel=>exact⟨5,by omega,by go_num,by rw [<- HF.out,YU,C.Ay (by omega)],hbel.alloc hsz _⟩
     case measure=>simp [intOf]
    by_cases hb:55203<r
    ·go_wp2
     go_roundw
     case rel=>exact⟨5,by omega,by go_num,by rw [<- HF.out,YU,C.Ay (by omega)],hbel.alloc hsz _⟩
     case measure=>simp [intOf]
    ·go_wp2
     go_ret
     exact⟨HR.out _ (by rw [<- HF.out,YU,C.Bn (by omega)]),hbel.alloc hsz _⟩
   ·by_cases ha:r<55296
    ·go_wp2
     go_roundw
     case rel=>exact⟨6,by omega,by go_num,by rw [<- HF.out,YV,C.Ay (by omega)],hbel.alloc hsz _⟩
     case measure=>simp [intOf]
    by_cases hb:57343<r
    ·go_wp2
     go_roundw
     case rel=>exact⟨6,by omega,by go_num,by rw [<- HF.out,YV,C.Ay (by omega)],hbel.alloc hsz _⟩
     case measure=>simp [intOf]
    ·go_wp2
     go_ret
     exact⟨HR.out _ (by rw [<- HF.out,YV,C.Bn (by omega)]),hbel.alloc hsz _⟩
   ·by_cases ha:r<63744
    ·go_wp2
     go_roundw
     case rel=>exact⟨7,by omega,by go_num,by rw [<- HF.out,YW,C.Ay (by omega)],hbel.alloc hsz _⟩
     case measure=>simp [intOf]
    by_cases hb:64255<r
    ·go_wp2
     go_roundw
     case rel=>exact⟨7,by omega,by go_num,by rw [<- HF.out,YW,C.Ay (by omega)],hbel.alloc hsz _⟩
     case measure=>simp [intOf]
    ·go_wp2
     go_ret
     exact⟨HR.out _ (by rw [<- HF.out,YW,C.Bn (by omega)]),hbel.alloc hsz _⟩
   ·by_cases ha:r<65072
    ·go_wp2
     go_roundw
     case rel=>exact⟨8,by omega,by go_num,by rw [<- HF.out,YX,C.Ay (by omega)],hbel.alloc hsz _⟩
     case measure=>simp [intOf]
    by_cases hb:65135<r
    ·go_wp2
     go_roundw
     case rel=>exact⟨8,by omega,by go_num,by rw [<- HF.out,YX,C.Ay (by omega)],hbel.alloc hsz _⟩
     case measure=>simp [intOf]
    ·go_wp2
     go_ret
     exact⟨HR.out _ (by rw [<- HF.out,YX,C.Bn (by omega)]),hbel.alloc hsz _⟩
   ·by_cases ha:r<65280
    ·go_wp2
     go_roundw
     case rel=>exact⟨9,by omega,by go_num,by rw [<- HF.out,YZ,C.Ay (by omega)],hbel.alloc hsz _⟩
     case measure=>simp [intOf]
    by_cases hb:65376<r
    ·go_wp2
     go_roundw
     case rel=>exact⟨9,by omega,by go_num,by rw [<- HF.out,YZ,C.Ay (by omega)],hbel.alloc hsz _⟩
     case measure=>simp [intOf]
    ·go_wp2
     go_ret
     exact⟨HR.out _ (by rw [<- HF.out,YZ,C.Bn (by omega)]),hbel.alloc hsz _⟩
   ·by_cases ha:r<65504
    ·go_wp2
     go_roundw
     case rel=>exact⟨10,by omega,by go_num,by rw [<- HF.out,Ya,C.Ay (by omega)],hbel.alloc hsz _⟩
     case measure=>simp [intOf]
    by_cases hb:65510<r
    ·go_wp2
     go_roundw
     case rel=>exact⟨10,by omega,by go_num,by rw [<- HF.out,Ya,C.Ay (by omega)],hbel.alloc hsz _⟩
     case measure=>simp [intOf]
    ·go_wp2
     go_ret
     exact⟨HR.out _ (by rw [<- HF.out,Ya,C.Bn (by omega)]),hbel.alloc hsz _⟩
   ·by_cases ha:r<127744
    ·go_wp2
     go_roundw
     case rel=>exact⟨11,by omega,by go_num,by rw [<- HF.out,Rn,C.Ay (by omega)],hbel.alloc hsz _⟩
     case measure=>simp [intOf]
    by_cases hb:129791<r
    ·go_wp2
     go_roundw
     case rel=>exact⟨11,by omega,by go_num,by rw [<- HF.out,Rn,C.Ay (by omega)],hbel.alloc hsz _⟩
     case measure=>simp [intOf]
    ·go_wp2
     go_ret
     exact⟨HR.out _ (by rw [<- HF.out,Rn,C.Bn (by omega)]),hbel.alloc hsz _⟩
   ·by_cases ha:r<131072
    ·go_wp2
     go_roundw
     case rel=>exact⟨12,by omega,by go_num,by rw [<- HF.out,Ro,C.Ay (by omega)],hbel.alloc hsz _⟩
     case measure=>simp [intOf]
    by_cases hb:262141<r
    ·go_wp2
     go_roundw
     case rel=>exact⟨12,by omega,by go_num,by rw [<- HF.out,Ro,C.Ay (by omega)],hbel.alloc hsz _⟩
     case measure=>simp [intOf]
    ·go_wp2
     go_ret
     exact⟨HR.out _ (by rw [<- HF.out,Ro,C.Bn (by omega)]),hbel.alloc hsz _⟩
  ·go_wp2
   go_ret
   exact⟨HR.out _ (by rw [<- HF.out,lF]),hbel⟩
end Go.Proofs.YtoaabebgmdbjeaaGreatDoor
