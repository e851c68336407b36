/- A part of the proof: KeepPen, GridMem, CellSmall, CellWidth. -/
import Derived.Test.YtoaabebgmdbjeaaGreatDoorTa02
import Derived.Test.YtoaabebgmdbjeaaGreatDoorTa03
import Derived.Deep.RegionHeld3
import Derived.Laws.CopyRow
import Derived.OwnWalk
import Derived.BigRegion
import Derived.Deep.RegionHeldLaw
import Derived.Laws.Rows
set_option maxRecDepth 100000
set_option maxHeartbeats 16000000
set_option linter.unusedVariables false
namespace Go.Proofs.YtoaabebgmdbjeaaGreatDoor
open Go.RowKit
end Go.Proofs.YtoaabebgmdbjeaaGreatDoor
namespace Go.Proofs.YtoaabebgmdbjeaaGreatDoor
open Go.RowKit
def c5 (c:PG.Cl):List Value:= [.int .i32 (PG.rn c),.int .i64 (PG.kd c),.int .i64 (PG.pn c).1,.int .i64 (PG.pn c).2.1,.int .i64 (PG.pn c).2.2]
def cv (c:PG.Cl):Value:=.agg #[.int .i32 (PG.rn c),.int .i64 (PG.kd c),.int .i64 (PG.pn c).1,.int .i64 (PG.pn c).2.1,.int .i64 (PG.pn c).2.2]
def pv (p:PG.Pn):Value:=.agg #[.int .i64 p.1,.int .i64 p.2.1,.int .i64 p.2.2]
def Af (l:List PG.Cl):List Value:=l.flatMap c5
theorem Pp:Af [] = [] :=rfl
theorem Bt (c:PG.Cl) (l:List PG.Cl):Af (c::l)=c5 c++Af l:=rfl
theorem F3 (a b:List PG.Cl):Af (a++b)=Af a++Af b:=by simp [Af]
theorem EC (l:List PG.Cl):(Af l).length=l.length*5:=by
 induction l with
 | nil=>rfl
 | cons c l ih=>rw [Bt,List.length_append,ih,List.length_cons];show 5+_=_;omega
theorem GN: ∀(l:List PG.Cl) (k j:Nat) (c:PG.Cl) (u:Value),l[k]? =some c->(c5 c)[j]? =some u->(Af l)[k*5+j]? =some u
 | [],k,j,c,u,h,_=>by simp at h
 | d::l,0,j,c,u,h,hu=>by
  simp at h
  subst h
  have hj:j<5:=(List.getElem?_eq_some_iff.1 hu).1
  rw [Bt,Nat.zero_mul,Nat.zero_add,List.getElem?_append_left (by show j<5;exact hj)]
  exact hu
 | d::l,k+1,j,c,u,h,hu=>by
  have ih:=GN l k j c u (by simpa using h) hu
  rw [Bt,List.getElem?_append_right (by show 5<=_;omega),show(k+1)*5+j-(c5 d).length=k*5+j from by show(k+1)*5+j-5=_;omega]
  exact ih
theorem KY (l:List PG.Cl): ∀u∈Af l,u.oneCell'=true:=by
 intro u hu
 obtain⟨c,_,hu⟩:=List.mem_flatMap.1 hu
 simp only [c5,List.mem_cons,List.not_mem_nil,or_false] at hu
 rcases hu with rfl | rfl | rfl | rfl | rfl<;>rfl
theorem Jq (l:List PG.Cl) (k:Nat):(Af l).take (k*5)=Af (l.take k):=by
 induction l generalizing k with
 | nil=>simp [Af]
 | cons c l ih=>
  cases k with
  | zero=>simp [Af]
  | succ k=>
   rw [Bt,List.take_succ_cons,Bt,List.take_append, <- ih k,List.take_of_length_le (l:=c5 c) (by show 5<=_;omega)]
   congr 2
   show(k+1)*5-5=k*5
   omega
theorem Jr (l:List PG.Cl) (k:Nat):(Af l).drop (k*5)=Af (l.drop k):=by
 induction l generalizing k with
 | nil=>simp [Af]
 | cons c l ih=>
  cases k with
  | zero=>simp
  | succ k=>
   rw [Bt,List.drop_succ_cons, <- ih k,List.drop_append,List.drop_of_length_le (l:=c5 c) (by show 5<=_;omega),List.nil_append]
   congr 1
   show(k+1)*5-5=k*5
   omega
def JZ (xs:List Value) (o:Nat) (c:PG.Cl):List Value:=((((xs.set o (.int .i32 (PG.rn c))).set (o+1) (.int .i64 (PG.kd c))).set (o+2) (.int .i64 (PG.pn c).1)).set (o+3) (.int .i64 (PG.pn c).2.1)).set (o+4) (.int .i64 (PG.pn c).2.2)
theorem Vn (a:List Value) (xs:List Value) (o:Nat) (c:PG.Cl):JZ (a++xs) (a.length+o) c=a++JZ xs o c:=by
 have h: ∀(ys:List Value) (j:Nat) (u:Value),(a++ys).set (a.length+j) u=a++ys.set j u:=fun ys j u=>by
  rw [List.set_append_right _ _ (by omega),Nat.add_sub_cancel_left]
 unfold JZ
 rw [h,Nat.add_assoc,h,Nat.add_assoc,h,Nat.add_assoc,h,Nat.add_assoc,h]
theorem KZ: ∀(l:List PG.Cl) (k:Nat) (c:PG.Cl),k<l.length->JZ (Af l) (k*5) c=Af (l.set k c)
 | [],k,c,h=>by simp at h
 | d::l,0,c,h=>by
  rw [List.set_cons_zero,Bt,Bt]
  rfl
 | d::l,k+1,c,h=>by
  have ih:=KZ l k c (by simpa using h)
  rw [List.set_cons_succ,Bt,Bt, <- ih, <- Vn]
  congr 1
  show(k+1)*5=5+k*5
  omega
def Ay (w:World) (B:Nat) (A:Option Addr) (n:Nat) (l:List PG.Cl):Prop:=Seen w B A (n*5) (Af l)
section
variable {w w':World} {B B' n:Nat} {A:Option Addr} {l:List PG.Cl}
theorem Ay.len (h:Ay w B A n l):l.length=n:=by
 have:=h.1
 rw [EC] at this
 omega
theorem Ay.PO (w:World) (B:Nat) (A:Option Addr):Ay w B A 0 [] :=Seen.PO w B A
theorem Ay.below (h:Ay w B A n l) (hb:Below B w w'):Ay w' B A n l:=Seen.below h hb
theorem Ay.more (h:Ay w B A n l) (hB:B<=B'):Ay w B' A n l:=Seen.more h hB
theorem Ay.Cq {base:Nat} {e:TypeId} {c:Nat} (h:w.ownsRow base e 5 (.slice A n c) n (Af l)):Ay w w.heap.size A n l:=by
 refine⟨h.1,fun j u hu=>?_⟩
 rcases h.2 with ⟨_,rfl⟩ | ⟨g,cap,cur,hv,_,hh,_,_,_,_⟩
 ·have:=h.1
  rw [List.eq_nil_of_length_eq_zero (l:=Af l) (by omega)] at hu
  simp at hu
 ·injection hv with hA
  subst hA
  exact⟨_,rfl,(Array.getElem?_eq_some_iff.1 hh).1,h.cells (g:=g) rfl j u hu⟩
theorem Ay.at_ (h:Ay w B A n l) {k:Nat} {c:PG.Cl} (hk:l[k]? =some c): ∃ad,A=some ad/\ad.block<B/\ ∀j u,(c5 c)[j]? =some u->w.cell? (ad.add (k*5+j))=some u:=by
 obtain⟨ad,h1,h2,_⟩:=h.2 (k*5+0) _ (GN l k 0 c _ hk rfl)
 refine⟨ad,h1,h2,fun j u hu=>?_⟩
 obtain⟨ad',h1',_,h3⟩:=h.2 (k*5+j) u (GN l k j c u hk hu)
 rw [h1] at h1'
 injection h1' with e
 subst e
 exact h3
theorem I7 (ad:Addr) (x j:Nat) (hj:0<j):ad.add (x+j)=⟨(ad.add x).block,(ad.add x).off+j,none⟩:=by
 unfold Addr.add
 by_cases hx:x=0
 ·subst hx
  simp
  omega
 ·rw [if_neg (by omega),if_neg hx]
  simp [Nat.add_assoc]
theorem Ay.five (h:Ay w B A n l) {k:Nat} {c:PG.Cl} (hk:l[k]? =some c): ∃ad,A=some ad/\ad.block<B/\w.cell? (ad.add (k*5))=some (.int .i32 (PG.rn c))/\w.cell? ⟨(ad.add (k*5)).block,(ad.add (k*5)).off+1,none⟩=some (.int .i64 (PG.kd c))/\
  w.cell? ⟨(ad.add (k*5)).block,(ad.add (k*5)).off+2,none⟩=some (.int .i64 (PG.pn c).1)/\w.cell? ⟨(ad.add (k*5)).block,(ad.add (k*5)).off+3,none⟩=some (.int .i64 (PG.pn c).2.1)/\w.cell? ⟨(ad.add (k*5)).block,(ad.add (k*5)).off+4,none⟩=some (.int .i64 (PG.pn c).2.2):=by
 obtain⟨ad,h1,h2,h3⟩:=h.at_ hk
 refine⟨ad,h1,h2,h3 0 _ rfl,?_,?_,?_,?_⟩
 ·rw [<- I7 ad (k*5) 1 (by omega)];exact h3 1 _ rfl
 ·rw [<- I7 ad (k*5) 2 (by omega)];exact h3 2 _ rfl
 ·rw [<- I7 ad (k*5) 3 (by omega)];exact h3 3 _ rfl
 ·rw [<- I7 ad (k*5) 4 (by omega)];exact h3 4 _ rfl
theorem Ay.drop (h:Ay w B A n l) {k cap:Nat} (hk:k<=n) (hc:n<=cap):Ay w B (if cap=k then A else A.map (·.add (k*5))) (n-k) (l.drop k):=by
 have:=Seen.drop h (k:=k*5) (cap:=cap*5) (by omega) (by omega)
 unfold Ay
 rw [<- Jr]
 have e:(if cap=k then A else A.map (·.add (k*5)))=(if cap*5=k*5 then A else A.map (·.add (k*5))):=by
  by_cases h:cap=k
  ·rw [if_pos h,if_pos (by omega)]
  ·rw [if_neg h,if_neg (by omega)]
 rw [e,show(n-k)*5=n*5-k*5 from by omega]
 exact this
theorem Ay.take (h:Ay w B A n l) {k:Nat} (hk:k<=n):Ay w B A k (l.take k):=by
 unfold Ay
 rw [<- Jq]
 exact Seen.take h (by omega)
end
def CG (w:World) (g o:Nat) (c:PG.Cl):World:=((((w.setCell ⟨g,o,none⟩ (.int .i32 (PG.rn c))).setCell ⟨g,o+1,none⟩ (.int .i64 (PG.kd c))).setCell ⟨g,o+2,none⟩ (.int .i64 (PG.pn c).1)).setCell ⟨g,o+3,none⟩ (.int .i64 (PG.pn c).2.1)).setCell ⟨g,o+4,none⟩ (.int .i64 (PG.pn c).2.2)
theorem Pq {w w1 w2 w3 w4 w5:World} {r:Option Nat} (h1:w.grownBy w1 r) (h2:w1.grownBy w2 r) (h3:w2.grownBy w3 r) (h4:w3.grownBy w4 r) (h5:w4.grownBy w5 r):w.grownBy w5 r:=by
 have two: ∀{a b c:World},a.grownBy b r->b.grownBy c r->a.grownBy c r:=fun h k=>
  ⟨k.os.trans h.os,k.tape.trans h.tape,k.output.trans h.output,Nat.le_trans h.size k.size,fun i hi hne=>(k.block i (Nat.lt_of_lt_of_le hi h.size) hne).trans (h.block i hi hne)⟩
 exact two (two (two (two h1 h2) h3) h4) h5
theorem EF {w:World} {base n g cap:Nat} {e:TypeId} {l:List PG.Cl} (h:w.ownsRow base e 5 (.slice (some ⟨g,0,none⟩) n cap) n (Af l)) {k:Nat} (c:PG.Cl) (hk:k<n) (hl:l.length=n):
  (CG w g (k*5) c).ownsRow base e 5 (.slice (some ⟨g,0,none⟩) n cap) n (Af (l.set k c))/\w.grownBy (CG w g (k*5) c) (some g):=by
 obtain⟨h1,g1⟩:=h.stored (k*5) (.int .i32 (PG.rn c))
 obtain⟨h2,g2⟩:=h1.stored (k*5+1) (.int .i64 (PG.kd c))
 obtain⟨h3,g3⟩:=h2.stored (k*5+2) (.int .i64 (PG.pn c).1)
 obtain⟨h4,g4⟩:=h3.stored (k*5+3) (.int .i64 (PG.pn c).2.1)
 obtain⟨h5,g5⟩:=h4.stored (k*5+4) (.int .i64 (PG.pn c).2.2)
 refine⟨?_,?_⟩
 ·rw [<- KZ l k c (by omega)]
  exact h5
 ·exact Pq g1 g2 g3 g4 g5
theorem Gx {w:World} {base n g cap:Nat} {e:TypeId} {l:List PG.Cl} (h:w.ownsRow base e 5 (.slice (some ⟨g,0,none⟩) n cap) n (Af l)) {k:Nat} {c:PG.Cl} (hk:l[k]? =some c):
  w.cell? ⟨g,k*5,none⟩=some (.int .i32 (PG.rn c))/\w.cell? ⟨g,k*5+1,none⟩=some (.int .i64 (PG.kd c))/\w.cell? ⟨g,k*5+2,none⟩=some (.int .i64 (PG.pn c).1)/\w.cell? ⟨g,k*5+3,none⟩=some (.int .i64 (PG.pn c).2.1)/\w.cell? ⟨g,k*5+4,none⟩=some (.int .i64 (PG.pn c).2.2)/\
  w.frozen? ⟨g,k*5,none⟩=false/\w.frozen? ⟨g,k*5+1,none⟩=false/\w.frozen? ⟨g,k*5+2,none⟩=false/\w.frozen? ⟨g,k*5+3,none⟩=false/\w.frozen? ⟨g,k*5+4,none⟩=false:=by
 have at_: ∀j u,(c5 c)[j]? =some u->w.cell? ⟨g,k*5+j,none⟩=some u:=fun j u hu=>by
  have h1:=GN l k j c u hk hu
  have:=h.cells (g:=g) rfl (k*5+j) u h1
  rw [Addr.add_lit,Nat.zero_add] at this
  exact this
 exact⟨at_ 0 _ rfl,at_ 1 _ rfl,at_ 2 _ rfl,at_ 3 _ rfl,at_ 4 _ rfl,h.frozenAt _,h.frozenAt _,h.frozenAt _,h.frozenAt _,h.frozenAt _⟩
theorem Ye {P:Program} {w:World} {o:Oper} {a:Act} {K:Act->World->Prop} {Q:Exit->Act->World->Prop} (s x:Operand) (t:TypeId)
  (ho:o.op=.call {callee:=.builtin .append,args:= #[s,x],argTypes:= #[t,t]})
  (base:Nat) (e:TypeId) (i:TypeInfo) (z:Value) (bytes:Nat) (ht:P.underlying t=some (.slice e)) (hi:P.info? e=some i) (hz:i.zero=some z)
  (hsize:i.size=5) (hby:i.bytes=bytes) (hzs:z.cells.size=5)
  (v:Value) (n:Nat) (xs:List PG.Cl) (hs:a.eval s=v) (hown:w.ownsRow base e 5 v n (Af xs))
  (B:Nat) (A:Option Addr) (m c:Nat) (ys:List PG.Cl) (hx:a.eval x=.slice A m c) (hy:Ay w B A m ys) (hb8:bytes<=64) (hn:n+m<=1099511627776) (hbase:base<=w.heap.size)
  (h: ∀v' w',w'.ownsRow base e 5 v' (n+m) (Af (xs++ys))->w.grownBy w' v.ownBlock->Moved w v v'->K (a.put o.dst v') w'):
  o.wp P a w K Q:=by
 rw [F3] at h
 have hlen:=hy.len
 rcases A with _ | ad
 ·have hn0:ys= [] :=by
   rcases ys with _ | ⟨y,ys⟩
   ·rfl
   ·obtain⟨ad,h0,_⟩:=hy.at_ (k:=0) rfl
    cases h0
  subst hn0
  have hm:m=0:=by simpa using hlen.symm
  subst hm
  have hrun:(Builtin.append_ #[t,t] o.type #[v,.slice none 0 c]).run P w=.ok v w:=by
   rcases hown.2 with ⟨rfl,rfl⟩ | ⟨g,cap,cur,rfl,_,_,hnc,_⟩
   ·simp [Builtin.append_,run_underlying ht,sizeOf,typeInfo,hi,Builtin.lenOf,Builtin.firstCells]
   ·simp [Builtin.append_,run_underlying ht,sizeOf,typeInfo,hi,Builtin.lenOf,Builtin.firstCells,hnc,storeCells]
  unfold Oper.wp
  simp [execOp,ho,resolve,invoke,builtin,hs,hx,hrun,Result.andThen]
  exact h v w (by simpa [Af] using hown) (PU _ _) (.inl rfl)
 ·obtain⟨v',w',hr,h2,h3,_,h5⟩:=run_append_own_at (P:=P) w base t o.type e i z 5 bytes ht hi hz hsize hby hzs (by omega) v n (Af xs) hown ad m c (Af ys) hy.1 (fun j u hu=>by
   obtain⟨ad',h1,_,h3⟩:=hy.2 j u hu
   injection h1 with h1
   subst h1
   exact h3) (KY ys) (by simp only [maxLen];omega) (by have:(n+m)*bytes<=1099511627776*64:=Nat.mul_le_mul hn hb8;omega) hbase
  unfold Oper.wp execOp
  simp only [ho,resolve,invoke,builtin,Sem.run_bind,Sem.run_pure,Result.andThen_ok,List.map_toArray,List.map_cons,List.map_nil,hs,hx,hr]
  refine h v' w' h2 h3 ?_
  rcases h5 with hat | hat
  ·exact .inl hat
  ·exact .inr ⟨_,hat,Nat.le_refl _⟩
theorem Nw {P:Program} {w:World} {ops:Array Oper} {rest:List Oper} {o:Oper} {a:Act} {Q:Exit->Act->World->Prop} (hgd:o.guard=none) (s x:Operand) (t:TypeId)
  (ho:o.op=.call {callee:=.builtin .append,args:= #[s,x],argTypes:= #[t,t]})
  (base:Nat) (e:TypeId) (i:TypeInfo) (z:Value) (bytes:Nat) (ht:P.underlying t=some (.slice e)) (hi:P.info? e=some i) (hz:i.zero=some z)
  (hsize:i.size=5) (hby:i.bytes=bytes) (hzs:z.cells.size=5)
  (v:Value) (n:Nat) (xs:List PG.Cl) (hs:a.eval s=v) (hown:w.ownsRow base e 5 v n (Af xs))
  (B:Nat) (A:Option Addr) (m c:Nat) (ys:List PG.Cl) (hx:a.eval x=.slice A m c) (hy:Ay w B A m ys) (hb8:bytes<=64) (hn:n+m<=1099511627776) (hbase:base<=w.heap.size)
  (h: ∀v' w',w'.ownsRow base e 5 v' (n+m) (Af (xs++ys))->w.grownBy w' v.ownBlock->Moved w v v'->wpList P ops Q rest (a.put o.dst v') w'):
  wpList P ops Q (o::rest) a w:=
 wpList_plain hgd fun _ hK=>Ye s x t ho base e i z bytes ht hi hz hsize hby hzs v n xs hs hown B A m c ys hx hy hb8 hn hbase fun v' w' h2 h3 h4=>hK _ _ (h v' w' h2 h3 h4)
end Go.Proofs.YtoaabebgmdbjeaaGreatDoor
namespace Go.Proofs.YtoaabebgmdbjeaaGreatDoor
open Go.RowKit
def gv (R K:Nat) (s:Value):Value:=.agg #[.int .i64 R,.int .i64 K,s]
def Ny:Value:=.agg #[.int .i32 0,.int .i64 0,.int .i64 0,.int .i64 0,.int .i64 0]
theorem Ci:(Tryz.prog.info? 66).map (fun i=>(i.zero,i.size,i.bytes))=some (some Ny,5,40):=by kernel_rfl
theorem Vo {w:World} {base g:Nat} (e:TypeId) (hg:g=w.heap.size) (hb:base<=w.heap.size):(w.alloc (.cells #[] e)).ownsRow base e 5 (.slice (some ⟨g,0,none⟩) 0 0) 0 (Af []):=by
 subst hg
 exact World.ownsRow_made w #[] 0 hb (Nat.zero_le _) rfl
theorem Ml {w w1:World} {t0 t1:TypeId} {cs ds:Array Value} (hg:Below ((w.alloc (.cells cs t0)).alloc (.cells ds t1)).heap.size ((w.alloc (.cells cs t0)).alloc (.cells ds t1)) w1):Box w1 w.heap.size t0 cs/\Box w1 (w.heap.size+1) t1 ds/\Below w.heap.size w w1:=by
 refine⟨((Box.new w t0 cs).alloc _).below hg (by simp;omega),?_,?_⟩
 ·have h:=Box.new (w.alloc (.cells cs t0)) t1 ds
  rw [show(w.alloc (.cells cs t0)).heap.size=w.heap.size+1 from by simp] at h
  exact h.below hg (by simp)
 ·exact(((Below.refl _ _).alloc (Nat.le_refl _) _).alloc (by simp) _).trans (hg.mono (by simp;omega))
def I8 (w:World) (R K:Nat) (l:List PG.Cl) (e:Ending) (w':World):Prop:= ∃v,e=.returned (gv R K v)/\w'.ownsRow w.heap.size 66 5 v l.length (Af l)/\Below w.heap.size w w'
def spl (l:List PG.Cl) (x:Nat) (m:List PG.Cl):List PG.Cl:=l.take x++m++l.drop (x+m.length)
theorem RY (l:List PG.Cl) (x:Nat):spl l x [] =l:=by simp [spl]
theorem DT {l:List PG.Cl} {x:Nat} {m:List PG.Cl} (h:x+m.length<=l.length):(spl l x m).length=l.length:=by
 unfold spl
 simp only [List.length_append,List.length_take,List.length_drop]
 omega
theorem Vp {l:List PG.Cl} {x:Nat} {m:List PG.Cl} (c:PG.Cl) (h:x+m.length<l.length):(spl l x m).set (x+m.length) c=spl l x (m++ [c]):=by
 unfold spl
 have hl:(l.take x++m).length=x+m.length:=by rw [List.length_append,List.length_take];omega
 rw [List.set_append_right _ _ (by omega),hl,Nat.sub_self,List.drop_eq_getElem_cons h,List.set_cons_zero,List.length_append,List.length_singleton]
 simp [List.append_assoc,Nat.add_assoc]
theorem E8 {w:World} {base n:Nat} {e:TypeId} {size:Nat} {v:Value} {xs:List Value} (h:w.ownsRow base e size v n xs) (hn:0<n): ∃g cap,v=.slice (some ⟨g,0,none⟩) n cap/\base<=g/\n<=cap/\cap<=maxLen:=by
 rcases h.2 with ⟨_,h0⟩ | ⟨g,cap,cur,rfl,hb,_,h1,h2,_⟩
 ·omega
 ·exact⟨g,cap,rfl,hb,h1,h2⟩
end Go.Proofs.YtoaabebgmdbjeaaGreatDoor
namespace Go.Proofs.YtoaabebgmdbjeaaGreatDoor
open Go.RowKit
theorem Gi {P:Program} {w:World} {ops:Array Oper} {rest:List Oper} {o:Oper} {a:Act} {Q:Exit->Act->World->Prop} (h:wpList P ops Q (o::rest) a w):wpList P ops Q (o::rest) a w:=h
theorem Vq {α:Type} (cur c:List α) (x n:Nat) (hx:x+c.length<=n) (hn:n<=cur.length):
  (cur.take x++c++cur.drop (x+c.length)).take n=(cur.take n).take x++c++(cur.take n).drop (x+c.length):=by
 have e1:(cur.take n).take x=cur.take x:=by rw [List.take_take,Nat.min_eq_left (by omega)]
 rw [e1,List.take_append,List.take_of_length_le (by simp;omega),List.drop_take]
 congr 2
 simp only [List.length_append,List.length_take]
 omega
theorem Sm {P:Program} (w:World) (dT sT ty elem:TypeId) (i:TypeInfo) (hu:P.underlying dT=some (.slice elem)) (hi:P.info? elem=some i) (hsize:i.size=5)
  (base:Nat) (e:TypeId) (g y x n cap dLen dCap:Nat) (l:List PG.Cl) (hown:w.ownsRow base e 5 (.slice (some ⟨g,0,none⟩) n cap) n (Af l)) (hyx:y=x*5)
  (A:Option Addr) (B sLen sCap m:Nat) (ys:List PG.Cl) (hm:Nat.min sLen dLen=m) (hs:Ay w B A m ys) (hx:x+m<=n):
  ∃w',(Builtin.copy_ #[dT,sT] ty #[.slice (some ⟨g,y,none⟩) dLen dCap,.slice A sLen sCap]).run P w=.ok (goInt m) w'/\
   w'.ownsRow base e 5 (.slice (some ⟨g,0,none⟩) n cap) n (Af (spl l x ys))/\w.grownBy w' (some g):=by
 subst hyx
 have hlen:=hs.len
 have hcl:=EC ys
 rw [hlen] at hcl
 rcases hown.2 with ⟨h',_⟩ | ⟨g',cap',cur,h',hb,hg,hnc,hcm,hcs,htake⟩
 ·simp at h'
 simp only [Value.slice.injEq,Option.some.injEq,Addr.mk.injEq,and_true,true_and] at h'
 obtain⟨rfl,rfl⟩:=h'
 have hxn:x*5+(Af ys).length<=n*5:=by rw [hcl];omega
 have hnc5:n*5<=cap*5:=by omega
 have hst:=run_storeCells_at P g (x*5) e (Af ys) 0 cur w hg (by rw [hcs];omega) (KY ys)
 simp only [Nat.add_zero] at hst
 refine⟨w.setRow g (cur.toList.take (x*5)++Af ys++cur.toList.drop (x*5+(Af ys).length)).toArray,?_,⟨?_,.inr ⟨g,cap,_,rfl,hb,setRow_heap w g cur _ e (0,0) hg,hnc,hcm,?_,?_⟩⟩,?_⟩
 ·rcases A with _ | ad
  ·have hm0:ys= [] :=by
    rcases ys with _ | ⟨c,ys⟩
    ·rfl
    ·obtain⟨ad,h0,_⟩:=hs.at_ (k:=0) rfl
     cases h0
   subst hm0
   obtain rfl:m=0:=by simpa using hlen.symm
   simp only [Pp,List.length_nil] at hst⊢
   simp [Builtin.copy_,run_underlying hu,Builtin.lenOf,Builtin.firstCells,sizeOf,typeInfo,hi,hm,hst]
  ·have hl:=run_loadCells_list (P:=P) w ad (Af ys) (fun j v hv=>by
    obtain⟨ad',h1,_,h3⟩:=hs.2 j v hv
    injection h1 with h1
    subst h1
    exact h3)
   rw [hcl] at hl
   simp [Builtin.copy_,run_underlying hu,Builtin.lenOf,Builtin.firstCells,sizeOf,typeInfo,hi,hsize,hm,hl,hst]
 ·have h1:=hown.1
  rw [EC] at h1⊢
  rw [DT (by omega)]
  exact h1
 ·have e1:(Af ys).length<=cur.size:=by omega
  simp only [List.size_toArray,List.length_append,List.length_take,List.length_drop,Array.length_toList]
  omega
 ·rw [List.toList_toArray,Vq _ _ _ _ hxn (by rw [Array.length_toList];omega),htake,hcl]
  unfold spl
  rw [F3,F3, <- Jq, <- Jr,hlen,show x*5+m*5=(x+m)*5 by omega]
 ·exact⟨rfl,rfl,rfl,by simp [World.setRow],fun k _ hk=>setRow_other w g k _ (fun e=>hk (by rw [e]))⟩
theorem CJ {P:Program} {w:World} {ops:Array Oper} {rest:List Oper} {o:Oper} {a:Act} {Q:Exit->Act->World->Prop} (hgd:o.guard=none) (d s:Operand) (dT sT:TypeId)
  (ho:o.op=.call {callee:=.builtin .copy,args:= #[d,s],argTypes:= #[dT,sT]}) (elem:TypeId) (i:TypeInfo) (hu:P.underlying dT=some (.slice elem)) (hi:P.info? elem=some i) (hsize:i.size=5)
  (base:Nat) (e:TypeId) (g y x n cap dLen dCap:Nat) (l:List PG.Cl) (hd:a.eval d=.slice (some ⟨g,y,none⟩) dLen dCap) (hown:w.ownsRow base e 5 (.slice (some ⟨g,0,none⟩) n cap) n (Af l)) (hyx:y=x*5)
  (A:Option Addr) (B sLen sCap m:Nat) (ys:List PG.Cl) (hsv:a.eval s=.slice A sLen sCap) (hm:Nat.min sLen dLen=m) (hs:Ay w B A m ys) (hx:x+m<=n)
  (h: ∀w',w'.ownsRow base e 5 (.slice (some ⟨g,0,none⟩) n cap) n (Af (spl l x ys))->w.grownBy w' (some g)->wpList P ops Q rest (a.put o.dst (goInt m)) w'):
  wpList P ops Q (o::rest) a w:=by
 refine wpList_plain hgd fun K hK=>?_
 obtain⟨w',hrun,h1,h2⟩:=Sm (P:=P) w dT sT o.type elem i hu hi hsize base e g y x n cap dLen dCap l hown hyx A B sLen sCap m ys hm hs hx
 unfold Oper.wp
 simp [execOp,ho,resolve,invoke,builtin,hd,hsv,hrun,Result.andThen]
 exact hK _ _ (h w' h1 h2)
theorem Pt {P:Program} (w:World) (dT sT ty elem:TypeId) (i:TypeInfo) (hu:P.underlying dT=some (.slice elem)) (hi:P.info? elem=some i)
  (D A:Option Addr) (dLen dCap sLen sCap:Nat) (hm:Nat.min sLen dLen=0):
  (Builtin.copy_ #[dT,sT] ty #[.slice D dLen dCap,.slice A sLen sCap]).run P w=.ok (goInt 0) w:=by
 have hl: ∀ad,(loadCells ad 0).run P w=.ok #[] w:=fun ad=>run_loadCells_list (P:=P) w ad [] (fun j v hv=>by simp at hv)
 rcases A with _ | ad<;>rcases D with _ | d<;>
  simp [Builtin.copy_,run_underlying hu,Builtin.lenOf,Builtin.firstCells,sizeOf,typeInfo,hi,hm,storeCells,hl]
theorem IG {P:Program} {w:World} {ops:Array Oper} {rest:List Oper} {o:Oper} {a:Act} {Q:Exit->Act->World->Prop} (hgd:o.guard=none) (d s:Operand) (dT sT:TypeId)
  (ho:o.op=.call {callee:=.builtin .copy,args:= #[d,s],argTypes:= #[dT,sT]}) (elem:TypeId) (i:TypeInfo) (hu:P.underlying dT=some (.slice elem)) (hi:P.info? elem=some i)
  (D A:Option Addr) (dLen dCap sLen sCap:Nat) (hd:a.eval d=.slice D dLen dCap) (hsv:a.eval s=.slice A sLen sCap) (hm:Nat.min sLen dLen=0)
  (h:wpList P ops Q rest (a.put o.dst (goInt 0)) w):wpList P ops Q (o::rest) a w:=by
 refine wpList_plain hgd fun K hK=>?_
 have hrun:=Pt (P:=P) w dT sT o.type elem i hu hi D A dLen dCap sLen sCap hm
 unfold Oper.wp
 simp [execOp,ho,resolve,invoke,builtin,hd,hsv,hrun,Result.andThen]
 exact hK _ _ h
theorem IX (n:Nat):(madeCells Ny.cells (n*5)).toList=Af (List.replicate n PG.none):=by
 have hz:Ny.cells= #[.int .i32 0,.int .i64 0,.int .i64 0,.int .i64 0,.int .i64 0] :=rfl
 refine List.ext_getElem? fun j=>?_
 by_cases hj:j<n*5
 ·have hk:j / 5<n:=by omega
  have hr:(List.replicate n PG.none)[j / 5]? =some PG.none:=by rw [List.getElem?_replicate,if_pos hk]
  have h5:j%5<5:=by omega
  have hu: ∃u,(c5 PG.none)[j%5]? =some u/\Ny.cells[j%Ny.cells.size]! =u:=by
   rw [hz]
   have hs:(#[Value.int .i32 0,.int .i64 0,.int .i64 0,.int .i64 0,.int .i64 0] :Array Value).size=5:=rfl
   rw [hs]
   generalize j%5=k at h5
   obtain rfl | rfl | rfl | rfl | rfl:k=0\/k=1\/k=2\/k=3\/k=4:=by omega
   all_goals exact⟨_,rfl,rfl⟩
  obtain⟨u,h1,h2⟩:=hu
  have h3:=GN _ _ _ _ _ hr h1
  rw [show j / 5*5+j%5=j by omega] at h3
  rw [h3]
  unfold madeCells
  rw [Array.toList_map,Array.toList_range,List.getElem?_map,List.getElem?_range hj,Option.map_some,h2]
 ·rw [List.getElem?_eq_none (by simp [madeCells];omega),List.getElem?_eq_none (by rw [EC,List.length_replicate];omega)]
theorem add0 (g k:Nat):(⟨g,0,none⟩:Addr).add k=⟨g,k,none⟩:=by rw [Addr.add_lit,Nat.zero_add]
theorem Kept.Nz {w w':World} {r:Option Nat} (h:w.grownBy w' r):Kept [r] w w':=⟨h.os,h.tape,h.output,h.size,fun i hi hn=>h.block i hi (by simpa using hn)⟩
theorem RZ {l m:List PG.Cl} (h:m.length=l.length):spl l 0 m=m:=by
 unfold spl
 rw [List.take_zero,List.nil_append,Nat.zero_add,List.drop_of_length_le (by omega),List.append_nil]
end Go.Proofs.YtoaabebgmdbjeaaGreatDoor
namespace Go.Proofs.YtoaabebgmdbjeaaGreatDoor
open Go.RowKit
def fnL (l:List PG.Cl) (j:Nat):PG.Cl:=(l[j]?).getD PG.none
def C9 (l:List PG.Cl):List PG.Cl:=(List.range l.length).map (PG.mend (fnL l) l.length)
theorem Dr (l:List PG.Cl):(C9 l).length=l.length:=by simp [C9]
theorem Vr {l:List PG.Cl} {k:Nat} (hk:k<l.length):(C9 l)[k]? =some (PG.mend (fnL l) l.length k):=by
 unfold C9
 rw [List.getElem?_map,List.getElem?_range hk]
 rfl
theorem IY {l:List PG.Cl} {k:Nat} {c:PG.Cl} (hk:l[k]? =some c):fnL l k=c:=by unfold fnL;rw [hk];rfl
end Go.Proofs.YtoaabebgmdbjeaaGreatDoor
namespace Go.Proofs.YtoaabebgmdbjeaaGreatDoor
open Go.RowKit
def DF (l:List PG.Cl) (a b:Nat) (p:PG.Pn):List PG.Cl:=(List.range l.length).map (PG.EY (fnL l) a b p)
theorem Dt (l:List PG.Cl) (a b:Nat) (p:PG.Pn):(DF l a b p).length=l.length:=by simp [DF]
theorem Ka {l:List PG.Cl} {a b k:Nat} {p:PG.Pn} (hk:k<l.length):(DF l a b p)[k]? =some (PG.EY (fnL l) a b p k):=by
 unfold DF
 rw [List.getElem?_map,List.getElem?_range hk]
 rfl
theorem EG (l:List PG.Cl) (a b:Nat) (p:PG.Pn) (h:b<=a):DF l a b p=l:=by
 refine List.ext_getElem? fun k=>?_
 by_cases hk:k<l.length
 ·rw [Ka hk]
  unfold PG.EY
  rw [if_neg (by omega)]
  unfold fnL
  rw [List.getElem?_eq_getElem hk]
  rfl
 ·rw [List.getElem?_eq_none (by rw [Dt];omega),List.getElem?_eq_none (by omega)]
theorem Lj {l:List PG.Cl} {a k:Nat} (p:PG.Pn) (ha:a<=k) (hk:k<l.length):(DF l a k p).set k (PG.blank p)=DF l a (k+1) p:=by
 refine List.ext_getElem? fun j=>?_
 by_cases hj:j<l.length
 ·rw [Ka hj]
  by_cases e:j=k
  ·subst e
   rw [List.getElem?_set_self (by rw [Dt];exact hj)]
   unfold PG.EY
   rw [if_pos (by omega)]
  ·rw [List.getElem?_set_ne (by omega),Ka hj]
   unfold PG.EY
   by_cases h:a<=j/\j<k
   ·rw [if_pos h,if_pos (by omega)]
   ·rw [if_neg h,if_neg (by omega)]
 ·rw [List.getElem?_eq_none (by rw [List.length_set,Dt];omega),List.getElem?_eq_none (by rw [Dt];omega)]
end Go.Proofs.YtoaabebgmdbjeaaGreatDoor
namespace Go.Proofs.YtoaabebgmdbjeaaGreatDoor
open Go.RowKit
theorem Sn (w:World):Calls Tryz.prog 53 #[] w fun e w'=>e=.returned (.agg #[.int .i64 (-1),.int .i64 (-1),.int .i64 0])/\w.alloc (.cells #[.int .i64 (-1),.int .i64 (-1),.int .i64 0] 38)=w':=by
 go_enter Tryz.func53,Tryz.ntmps53
 go_wp2
 exact bodyPost_ret (v:=.agg #[.int .i64 (-1),.int .i64 (-1),.int .i64 0]) (by simp [results,Tryz.results53,go_sem]) rfl ⟨rfl,rfl⟩
theorem Er (f b g:Int) (w:World):Calls Tryz.prog 97 #[.agg #[.int .i64 f,.int .i64 b,.int .i64 g]] w fun e w'=>e=.returned (.agg #[.int .i32 32,.int .i64 0,.int .i64 f,.int .i64 b,.int .i64 g])/\Below w.heap.size w w':=by
 go_enter Tryz.func97,Tryz.ntmps97
 go_wp2
 exact bodyPost_ret (v:=.agg #[.int .i32 32,.int .i64 0,.int .i64 f,.int .i64 b,.int .i64 g]) (by simp [results,Tryz.results97,go_sem]) rfl ⟨rfl,((Below.refl _ _).alloc (Nat.le_refl _) _).alloc (by simp) _⟩
end Go.Proofs.YtoaabebgmdbjeaaGreatDoor
namespace Go.Proofs.YtoaabebgmdbjeaaGreatDoor
open Go.RowKit
def spanCells:Array Value:= #[.int .i32 127,.int .i32 159,.int .i64 0,.int .i32 768,.int .i32 879,.int .i64 0,.int .i32 4352,.int .i32 4447,.int .i64 2,.int .i32 11904,.int .i32 42191,.int .i64 2,.int .i32 44032,.int .i32 55203,.int .i64 2,.int .i32 55296,.int .i32 57343,.int .i64 0,.int .i32 63744,.int .i32 64255,.int .i64 2,.int .i32 65072,.int .i32 65135,.int .i64 2,.int .i32 65280,.int .i32 65376,.int .i64 2,.int .i32 65504,.int .i32 65510,.int .i64 2,.int .i32 127744,.int .i32 129791,.int .i64 2,.int .i32 131072,.int .i32 262141,.int .i64 2]
def EZ (w:World):Prop:= ∃t,w.heap[0]? =some (.cells spanCells t (0,0))
theorem EZ.lt {w:World} (h:EZ w):0<w.heap.size:=by
 obtain⟨t,h⟩:=h
 exact(Array.getElem?_eq_some_iff.1 h).1
theorem EZ.below {w w':World} {B:Nat} (h:EZ w) (hb:Below B w w') (hB:0<B):EZ w':=by
 obtain⟨t,h⟩:=h
 exact⟨t,(hb.block _ hB).trans h⟩
theorem EZ.keep {w w':World} (h:EZ w) (hb:Below w.heap.size w w'):EZ w':=h.below hb h.lt
theorem aS:Tryz.prog.globalNamed "linguist/cell.spans" =some 0:=by kernel_rfl
theorem aT:(Tryz.prog.globals[0]?).map (·.type)=some 137:=by kernel_rfl
theorem Pv:tiled Tryz.prog 4 137=true:=by kernel_rfl
theorem Sq:flat (H:=Unit) Rows.laid_linguist_cell_spans=some spanCells.toList:=by rfl
theorem Pw {w:World} {l:List (String × DataW Unit)} (h:laidMet Tryz.prog l w) (hm:("linguist/cell.spans",Rows.laid_linguist_cell_spans)∈l):EZ w:=by
 obtain⟨t,ht⟩:=Cr 4 aS aT Pv Sq (by simp [spanCells]) h hm
 exact⟨t,by simpa using ht⟩
def spansFrom (k:Nat):List (Int × Int × Int):=C.spans.drop k
theorem fB (w:World):(Instr.index 137 (.agg spanCells) (.int .i64 0)).run Tryz.prog w=.ok (.agg #[.int .i32 127,.int .i32 159,.int .i64 0]) w:=by kernel_rfl
theorem Vs:spansFrom 0=(127,159,0)::spansFrom 1:=rfl
theorem fC (w:World):(Instr.index 137 (.agg spanCells) (.int .i64 1)).run Tryz.prog w=.ok (.agg #[.int .i32 768,.int .i32 879,.int .i64 0]) w:=by kernel_rfl
theorem Vt:spansFrom 1=(768,879,0)::spansFrom 2:=rfl
theorem fD (w:World):(Instr.index 137 (.agg spanCells) (.int .i64 2)).run Tryz.prog w=.ok (.agg #[.int .i32 4352,.int .i32 4447,.int .i64 2]) w:=by kernel_rfl
theorem Vu:spansFrom 2=(4352,4447,2)::spansFrom 3:=rfl
theorem fE (w:World):(Instr.index 137 (.agg spanCells) (.int .i64 3)).run Tryz.prog w=.ok (.agg #[.int .i32 11904,.int .i32 42191,.int .i64 2]) w:=by kernel_rfl
theorem Vv:spansFrom 3=(11904,42191,2)::spansFrom 4:=rfl
theorem fF (w:World):(Instr.index 137 (.agg spanCells) (.int .i64 4)).run Tryz.prog w=.ok (.agg #[.int .i32 44032,.int .i32 55203,.int .i64 2]) w:=by kernel_rfl
theorem Vw:spansFrom 4=(44032,55203,2)::spansFrom 5:=rfl
theorem fG (w:World):(Instr.index 137 (.agg spanCells) (.int .i64 5)).run Tryz.prog w=.ok (.agg #[.int .i32 55296,.int .i32 57343,.int .i64 0]) w:=by kernel_rfl
theorem Vx:spansFrom 5=(55296,57343,0)::spansFrom 6:=rfl
theorem fH (w:World):(Instr.index 137 (.agg spanCells) (.int .i64 6)).run Tryz.prog w=.ok (.agg #[.int .i32 63744,.int .i32 64255,.int .i64 2]) w:=by kernel_rfl
theorem Vy:spansFrom 6=(63744,64255,2)::spansFrom 7:=rfl
theorem fI (w:World):(Instr.index 137 (.agg spanCells) (.int .i64 7)).run Tryz.prog w=.ok (.agg #[.int .i32 65072,.int .i32 65135,.int .i64 2]) w:=by kernel_rfl
theorem Vz:spansFrom 7=(65072,65135,2)::spansFrom 8:=rfl
theorem fJ (w:World):(Instr.index 137 (.agg spanCells) (.int .i64 8)).run Tryz.prog w=.ok (.agg #[.int .i32 65280,.int .i32 65376,.int .i64 2]) w:=by kernel_rfl
theorem V3:spansFrom 8=(65280,65376,2)::spansFrom 9:=rfl
theorem fK (w:World):(Instr.index 137 (.agg spanCells) (.int .i64 9)).run Tryz.prog w=.ok (.agg #[.int .i32 65504,.int .i32 65510,.int .i64 2]) w:=by kernel_rfl
theorem V4:spansFrom 9=(65504,65510,2)::spansFrom 10:=rfl
theorem aU (w:World):(Instr.index 137 (.agg spanCells) (.int .i64 10)).run Tryz.prog w=.ok (.agg #[.int .i32 127744,.int .i32 129791,.int .i64 2]) w:=by kernel_rfl
theorem Px:spansFrom 10=(127744,129791,2)::spansFrom 11:=rfl
theorem aV (w:World):(Instr.index 137 (.agg spanCells) (.int .i64 11)).run Tryz.prog w=.ok (.agg #[.int .i32 131072,.int .i32 262141,.int .i64 2]) w:=by kernel_rfl
theorem Py:spansFrom 11=(131072,262141,2)::spansFrom 12:=rfl
theorem aW (x:Int):C.find (spansFrom 12) x=1:=rfl
theorem Pz:(Tryz.prog.info? 137).map (·.size)=some spanCells.size:=by kernel_rfl
theorem Ll (r:Int) (w:World) (hr0: -2147483648<=r) (hr1:r<=2147483647) (hs:EZ w):
  Calls Tryz.prog 63 #[.int .i32 r] w fun e w'=>e=.returned (.int .i64 (C.width r))/\Below w.heap.size w w':=by
 have HE: ∀x:Int,x=C.width r->Ending.returned (.int .i64 x)=.returned (.int .i64 (C.width r)):=fun x h=>Br h
 have HR:=Lib.hid HE
 clear HE
 by_cases h0:r<32
 ·go_enter Tryz.func63,Tryz.ntmps63
  go_wp2
  go_ret
  exact⟨HR.out _ (by unfold C.width;rw [if_pos (by omega)]),Below.refl _ _⟩
 by_cases h1:1114111<r
 ·go_enter Tryz.func63,Tryz.ntmps63
  go_wp2
  go_ret
  exact⟨HR.out _ (by unfold C.width;rw [if_pos (by omega)]),Below.refl _ _⟩
 have hw:C.width r=C.find (spansFrom 0) r:=by
  unfold C.width
  rw [if_neg (by omega)]
  rfl
 have HW:=Lib.hid hw
 clear hw
 obtain⟨tt,hg⟩:=hs
 have lt:0<w.heap.size:=(Array.getElem?_eq_some_iff.1 hg).1
 have i0:=fB
 have i1:=fC
 have i2:=fD
 have i3:=fE
 have i4:=fF
 have i5:=fG
 have i6:=fH
 have i7:=fI
 have i8:=fJ
 have i9:=fK
 have i10:=aU
 have i11:=aV
 have hsz:spanCells.size=36:=rfl
 generalize hcs:spanCells=cs at hg hsz i0 i1 i2 i3 i4 i5 i6 i7 i8 i9 i10 i11
 have Ra:(Tryz.prog.info? 137).map (·.size)=some cs.size:=by rw [<- hcs];exact Pz
 have SC:=hide Ra
 clear hcs hsz Ra
 go_enter Tryz.func63,Tryz.ntmps63
 go_wp2_with (refine wpList_load_row rfl 137 _ rfl 0 rfl tt cs (0,0) _ hg Tryz.underlying137 rfl SC.out ?_)
 go_loopw [12] (fun i wr=> ∃k:Nat,k<=12/\i=.int .i64 k/\C.find (spansFrom k) r=C.width r/\Below w.heap.size w wr) (fun i _=>12-(intOf i).toNat)
 case atStart=>exact⟨0,by omega,rfl,HW.out.symm,Below.refl _ _⟩
 case round=>
  obtain⟨k,hk,rfl,hf,hbel⟩:=hrel
  have hsz:=hbel.size
  have HF:=hide hf
  clear hf
  obtain hlt | rfl:k<12\/k=12:=by omega
  ·obtain rfl | rfl | rfl | rfl | rfl | rfl | rfl | rfl | rfl | rfl | rfl | rfl:k=0\/k=1\/k=2\/k=3\/k=4\/k=5\/k=6\/k=7\/k=8\/k=9\/k=10\/k=11:=by omega
   ·by_cases ha:r<127
    ·go_wp2
     go_roundw
     case rel=>exact⟨1,by omega,by go_num,by rw [<- HF.out,Vs,C.Ao (by omega)],hbel.alloc hsz _⟩
     case measure=>simp [intOf]
    by_cases hb:159<r
    ·go_wp2
     go_roundw
     case rel=>exact⟨1,by omega,by go_num,by rw [<- HF.out,Vs,C.Ao (by omega)],hbel.alloc hsz _⟩
     case measure=>simp [intOf]
    ·go_wp2
     go_ret
     exact⟨HR.out _ (by rw [<- HF.out,Vs,C.Bc (by omega)]),hbel.alloc hsz _⟩
   ·by_cases ha:r<768
    ·go_wp2
     go_roundw
     case rel=>exact⟨2,by omega,by go_num,by rw [<- HF.out,Vt,C.Ao (by omega)],hbel.alloc hsz _⟩
     case measure=>simp [intOf]
    by_cases hb:879<r
    ·go_wp2
     go_roundw
     case rel=>exact⟨2,by omega,by go_num,by rw [<- HF.out,Vt,C.Ao (by omega)],hbel.alloc hsz _⟩
     case measure=>simp [intOf]
    ·go_wp2
     go_ret
     exact⟨HR.out _ (by rw [<- HF.out,Vt,C.Bc (by omega)]),hbel.alloc hsz _⟩
   ·by_cases ha:r<4352
    ·go_wp2
     go_roundw
     case rel=>exact⟨3,by omega,by go_num,by rw [<- HF.out,Vu,C.Ao (by omega)],hbel.alloc hsz _⟩
     case measure=>simp [intOf]
    by_cases hb:4447<r
    ·go_wp2
     go_roundw
     case rel=>exact⟨3,by omega,by go_num,by rw [<- HF.out,Vu,C.Ao (by omega)],hbel.alloc hsz _⟩
     case measure=>simp [intOf]
    ·go_wp2
     go_ret
     exact⟨HR.out _ (by rw [<- HF.out,Vu,C.Bc (by omega)]),hbel.alloc hsz _⟩
   ·by_cases ha:r<11904
    ·go_wp2
     go_roundw
     case rel=>exact⟨4,by omega,by go_num,by rw [<- HF.out,Vv,C.Ao (by omega)],hbel.alloc hsz _⟩
     case measure=>simp [intOf]
    by_cases hb:42191<r
    ·go_wp2
     go_roundw
     case rel=>exact⟨4,by omega,by go_num,by rw [<- HF.out,Vv,C.Ao (by omega)],hbel.alloc hsz _⟩
     case measure=>simp [intOf]
    ·go_wp2
     go_ret
     exact⟨HR.out _ (by rw [<- HF.out,Vv,C.Bc (by omega)]),hbel.alloc hsz _⟩
   ·by_cases ha:r<44032
    ·go_wp2
     go_roundw
     case rel=>exact⟨5,by omega,by go_num,by rw [<- HF.out,Vw,C.Ao (by omega)],hbel.alloc hsz _⟩
     case measure=>simp [intOf]
    by_cases hb:55203<r
    ·go_wp2
     go_roundw
     case rel=>exact⟨5,by omega,by go_num,by rw [<- HF.out,Vw,C.Ao (by omega)],hbel.alloc hsz _⟩
     case measure=>simp [intOf]
    ·go_wp2
     go_ret
     exact⟨HR.out _ (by rw [<- HF.out,Vw,C.Bc (by omega)]),hbel.alloc hsz _⟩
   ·by_cases ha:r<55296
    ·go_wp2
     go_roundw
     case rel=>exact⟨6,by omega,by go_num,by rw [<- HF.out,Vx,C.Ao (by omega)],hbel.alloc hsz _⟩
     case measure=>simp [intOf]
    by_cases hb:57343<r
    ·go_wp2
     go_roundw
     case rel=>exact⟨6,by omega,by go_num,by rw [<- HF.out,Vx,C.Ao (by omega)],hbel.alloc hsz _⟩
     case measure=>simp [intOf]
    ·go_wp2
     go_ret
     exact⟨HR.out _ (by rw [<- HF.out,Vx,C.Bc (by omega)]),hbel.alloc hsz _⟩
   ·by_cases ha:r<63744
    ·go_wp2
     go_roundw
     case rel=>exact⟨7,by omega,by go_num,by rw [<- HF.out,Vy,C.Ao (by omega)],hbel.alloc hsz _⟩
     case measure=>simp [intOf]
    by_cases hb:64255<r
    ·go_wp2
     go_roundw
     case rel=>exact⟨7,by omega,by go_num,by rw [<- HF.out,Vy,C.Ao (by omega)],hbel.alloc hsz _⟩
     case measure=>simp [intOf]
    ·go_wp2
     go_ret
     exact⟨HR.out _ (by rw [<- HF.out,Vy,C.Bc (by omega)]),hbel.alloc hsz _⟩
   ·by_cases ha:r<65072
    ·go_wp2
     go_roundw
     case rel=>exact⟨8,by omega,by go_num,by rw [<- HF.out,Vz,C.Ao (by omega)],hbel.alloc hsz _⟩
     case measure=>simp [intOf]
    by_cases hb:65135<r
    ·go_wp2
     go_roundw
     case rel=>exact⟨8,by omega,by go_num,by rw [<- HF.out,Vz,C.Ao (by omega)],hbel.alloc hsz _⟩
     case measure=>simp [intOf]
    ·go_wp2
     go_ret
     exact⟨HR.out _ (by rw [<- HF.out,Vz,C.Bc (by omega)]),hbel.alloc hsz _⟩
   ·by_cases ha:r<65280
    ·go_wp2
     go_roundw
     case rel=>exact⟨9,by omega,by go_num,by rw [<- HF.out,V3,C.Ao (by omega)],hbel.alloc hsz _⟩
     case measure=>simp [intOf]
    by_cases hb:65376<r
    ·go_wp2
     go_roundw
     case rel=>exact⟨9,by omega,by go_num,by rw [<- HF.out,V3,C.Ao (by omega)],hbel.alloc hsz _⟩
     case measure=>simp [intOf]
    ·go_wp2
     go_ret
     exact⟨HR.out _ (by rw [<- HF.out,V3,C.Bc (by omega)]),hbel.alloc hsz _⟩
   ·by_cases ha:r<65504
    ·go_wp2
     go_roundw
     case rel=>exact⟨10,by omega,by go_num,by rw [<- HF.out,V4,C.Ao (by omega)],hbel.alloc hsz _⟩
     case measure=>simp [intOf]
    by_cases hb:65510<r
    ·go_wp2
     go_roundw
     case rel=>exact⟨10,by omega,by go_num,by rw [<- HF.out,V4,C.Ao (by omega)],hbel.alloc hsz _⟩
     case measure=>simp [intOf]
    ·go_wp2
     go_ret
     exact⟨HR.out _ (by rw [<- HF.out,V4,C.Bc (by omega)]),hbel.alloc hsz _⟩
   ·by_cases ha:r<127744
    ·go_wp2
     go_roundw
     case rel=>exact⟨11,by omega,by go_num,by rw [<- HF.out,Px,C.Ao (by omega)],hbel.alloc hsz _⟩
     case measure=>simp [intOf]
    by_cases hb:129791<r
    ·go_wp2
     go_roundw
     case rel=>exact⟨11,by omega,by go_num,by rw [<- HF.out,Px,C.Ao (by omega)],hbel.alloc hsz _⟩
     case measure=>simp [intOf]
    ·go_wp2
     go_ret
     exact⟨HR.out _ (by rw [<- HF.out,Px,C.Bc (by omega)]),hbel.alloc hsz _⟩
   ·by_cases ha:r<131072
    ·go_wp2
     go_roundw
     case rel=>exact⟨12,by omega,by go_num,by rw [<- HF.out,Py,C.Ao (by omega)],hbel.alloc hsz _⟩
     case measure=>simp [intOf]
    by_cases hb:262141<r
    ·go_wp2
     go_roundw
     case rel=>exact⟨12,by omega,by go_num,by rw [<- HF.out,Py,C.Ao (by omega)],hbel.alloc hsz _⟩
     case measure=>simp [intOf]
    ·go_wp2
     go_ret
     exact⟨HR.out _ (by rw [<- HF.out,Py,C.Bc (by omega)]),hbel.alloc hsz _⟩
  ·go_wp2
   go_ret
   exact⟨HR.out _ (by rw [<- HF.out,aW]),hbel⟩
end Go.Proofs.YtoaabebgmdbjeaaGreatDoor
