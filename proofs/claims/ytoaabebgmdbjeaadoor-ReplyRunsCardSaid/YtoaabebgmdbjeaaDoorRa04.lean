/- A part of the proof: KeepPen, GridMem, CellSmall, CellWidth, GridSmall, PenEq, GridPut, RefWidth. -/
import Derived.Test.YtoaabebgmdbjeaaDoorRa02
import Derived.Test.YtoaabebgmdbjeaaDoorRa03
import Derived.Deep.RegionHeld3
import Derived.Laws.CopyRow
import Derived.OwnWalk
import Derived.BigRegion
import Derived.Deep.RegionHeldLaw
import Derived.Laws.Rows
import Derived.Laws.StructEq
import Derived.Deep.DeepCutAuto
import Derived.Laws.Cover4
import Derived.Laws.RangeAny
import Derived.BigQuiet
import Derived.Deep.QuietTactic
import Derived.IntWalk
set_option maxRecDepth 100000
set_option maxHeartbeats 16000000
set_option linter.unusedVariables false
namespace Go.Proofs.YtoaabebgmdbjeaaDoor
open Go.RowKit
theorem MQ (n:Int) (hn0: -9223372036854775808<=n) (hn1:n<=9223372036854775807): -2305843009213693952<=n.tdiv 4/\n.tdiv 4<=2305843009213693952:=by
 have h1:=Int.mul_tdiv_add_tmod n 4
 have h2:=Int.tmod_lt_of_pos n (b:=4) (by omega)
 have h3:=Int.tmod_lt_of_pos (-n) (b:=4) (by omega)
 rw [Int.neg_tmod] at h3
 omega
theorem D7 (n:Int) (w:World) (hn0: -9223372036854775808<=n) (hn1:n<=9223372036854775807):
  Calls Tryd.prog 37 #[.int .i64 n] w fun e w'=>e=.returned (.int .i64 (C.CB n))/\w=w':=by
 have hr: ∀x:Int,x=C.CB n->Ending.returned (.int .i64 x)=.returned (.int .i64 (C.CB n)):=fun x h=>Bg h
 have HR:=Lib.hid hr
 obtain⟨d0,d1⟩:=MQ n hn0 hn1
 clear hr
 have hc:n%4=0\/n%4=1\/n%4=2\/n%4=3:=by omega
 rcases hc with h | h | h | h
 ·have c1:=fun w'=>AQ n 0 3 0 (by omega) w' hn0 hn1 (by omega) (by omega) (by omega)
  have C1:=hide c1
  have E:=hide (show-1=C.CB n by unfold C.CB;rw [if_pos h])
  clear c1 h
  go_enter Tryd.func37,Tryd.ntmps37
  go_wp2_with fail
  refine(C1.out _).mono ?_
  rintro e w' ⟨rfl,rfl⟩
  go_wp2_with fail
  go_ret
  exact⟨HR.out _ E.out,rfl⟩
 ·have c1:=fun w'=>AQ n 0 3 1 (by omega) w' hn0 hn1 (by omega) (by omega) (by omega)
  have c2:=fun w'=>AQ (n.tdiv 4) 0 15 (n.tdiv 4%16) (by omega) w' (by omega) (by omega) (by omega) (by omega) (by omega)
  have C1:=hide c1
  have C2:=hide c2
  have E:=hide (show n.tdiv 4%16=C.CB n by unfold C.CB;rw [if_neg (by omega),if_pos h])
  clear c1 c2 h
  go_enter Tryd.func37,Tryd.ntmps37
  go_wp2_with fail
  refine(C1.out _).mono ?_
  rintro e w' ⟨rfl,rfl⟩
  go_wp2_with fail
  refine(C2.out _).mono ?_
  rintro e w' ⟨rfl,rfl⟩
  go_wp2_with fail
  go_ret
  exact⟨HR.out _ E.out,rfl⟩
 ·have c1:=fun w'=>AQ n 0 3 2 (by omega) w' hn0 hn1 (by omega) (by omega) (by omega)
  have c2:=fun w'=>AQ (n.tdiv 4) 0 255 (n.tdiv 4%256) (by omega) w' (by omega) (by omega) (by omega) (by omega) (by omega)
  have C1:=hide c1
  have C2:=hide c2
  have E:=hide (show n.tdiv 4%256=C.CB n by unfold C.CB;rw [if_neg (by omega),if_neg (by omega),if_pos h])
  clear c1 c2 h
  go_enter Tryd.func37,Tryd.ntmps37
  go_wp2_with fail
  refine(C1.out _).mono ?_
  rintro e w' ⟨rfl,rfl⟩
  go_wp2_with fail
  refine(C2.out _).mono ?_
  rintro e w' ⟨rfl,rfl⟩
  go_wp2_with fail
  go_ret
  exact⟨HR.out _ E.out,rfl⟩
 ·have c1:=fun w'=>AQ n 0 3 3 (by omega) w' hn0 hn1 (by omega) (by omega) (by omega)
  have c2:=fun w'=>AQ (n.tdiv 4) 0 16777215 (n.tdiv 4%16777216) (by omega) w' (by omega) (by omega) (by omega) (by omega) (by omega)
  have E:=show 16777216+n.tdiv 4%16777216=C.CB n by unfold C.CB;rw [if_neg (by omega),if_neg (by omega),if_neg (by omega)]
  have q0:0<=n.tdiv 4%16777216:=by omega
  have q1:n.tdiv 4%16777216<16777216:=by omega
  generalize n.tdiv 4%16777216=q at c2 E q0 q1
  have C1:=hide c1
  have C2:=hide c2
  have E2:=hide E
  clear c1 c2 h E
  go_enter Tryd.func37,Tryd.ntmps37
  go_wp2_with fail
  refine(C1.out _).mono ?_
  rintro e w' ⟨rfl,rfl⟩
  go_wp2_with fail
  refine(C2.out _).mono ?_
  rintro e w' ⟨rfl,rfl⟩
  go_wp2_with fail
  go_ret
  exact⟨HR.out _ E2.out,rfl⟩
theorem D8 (a b c:Int) (w:World) (a0: -9223372036854775808<=a) (a1:a<=9223372036854775807) (b0: -9223372036854775808<=b) (b1:b<=9223372036854775807) (c0: -9223372036854775808<=c) (c1:c<=9223372036854775807):
  Calls Tryd.prog 21 #[.agg #[.int .i64 a,.int .i64 b,.int .i64 c]] w fun e w'=>e=.returned (.agg #[.int .i64 (C.CB a),.int .i64 (C.CB b),.int .i64 (c%256)])/\Below w.heap.size w w':=by
 have k1:=fun w'=>D7 a w' a0 a1
 have k2:=fun w'=>D7 b w' b0 b1
 have k3:=fun w'=>AQ c 0 255 (c%256) (by omega) w' c0 c1 (by omega) (by omega) (by omega)
 have K: ∀x w',x=a\/x=b->Calls Tryd.prog 37 #[.int .i64 x] w' fun e w''=>e=.returned (.int .i64 (C.CB x))/\w'=w'':=by
  rintro x w' (rfl | rfl)
  ·exact k1 w'
  ·exact k2 w'
 generalize c%256=z at k3
 have K:=hide K
 have K3:=hide k3
 clear k1 k2 k3 a0 a1 b0 b1 c0 c1
 go_enter Tryd.func21,Tryd.ntmps21
 go_wp2_with fail
 go_region_held3 (fun w'=>w'.cell? ⟨w.heap.size,0,none⟩=some (.int .i64 a)/\w'.cell? ⟨w.heap.size,1,none⟩=some (.int .i64 b)/\w'.cell? ⟨w.heap.size,2,none⟩=some (.int .i64 c)) (go_keep)
  (first | (go_at_call 37;refine(K.out _ _ ?_).mono ?_;(first | exact .inl rfl | exact .inr rfl);rintro e w' ⟨rfl,rfl⟩) | (go_at_call 11;refine(K3.out _).mono ?_;rintro e w' ⟨rfl,rfl⟩))
 go_wp2_with fail
 refine bodyPost_ret (v:=.agg #[.int .i64 (C.CB a),.int .i64 (C.CB b),.int .i64 z]) (by simp [results,Tryd.results21,go_sem]) rfl ⟨rfl,?_⟩
 repeat(first | exact Below.refl _ _ | refine Below.drew ?_ | refine Below.setCell ?_ (by first | omega | (simp;done) | (simp;omega)) _ | refine Below.alloc ?_ (by first | omega | (simp;done) | (simp;omega)) _)
end Go.Proofs.YtoaabebgmdbjeaaDoor
namespace Go.Proofs.YtoaabebgmdbjeaaDoor
open Go.RowKit
def c5 (c:PG.Cl):List Value:= [.int .i32 (PG.rn c),.int .i64 (PG.kd c),.int .i64 (PG.pn c).1,.int .i64 (PG.pn c).2.1,.int .i64 (PG.pn c).2.2]
def cv (c:PG.Cl):Value:=.agg #[.int .i32 (PG.rn c),.int .i64 (PG.kd c),.int .i64 (PG.pn c).1,.int .i64 (PG.pn c).2.1,.int .i64 (PG.pn c).2.2]
def pv (p:PG.Pn):Value:=.agg #[.int .i64 p.1,.int .i64 p.2.1,.int .i64 p.2.2]
def AU (l:List PG.Cl):List Value:=l.flatMap c5
theorem A8 (c:PG.Cl) (l:List PG.Cl):AU (c::l)=c5 c++AU l:=rfl
theorem DY (a b:List PG.Cl):AU (a++b)=AU a++AU b:=by simp [AU]
theorem GR (l:List PG.Cl):(AU l).length=l.length*5:=by
 induction l with
 | nil=>rfl
 | cons c l ih=>rw [A8,List.length_append,ih,List.length_cons];show 5+_=_;omega
theorem Dj: ∀(l:List PG.Cl) (k j:Nat) (c:PG.Cl) (u:Value),l[k]? =some c->(c5 c)[j]? =some u->(AU l)[k*5+j]? =some u
 | [],k,j,c,u,h,_=>by simp at h
 | d::l,0,j,c,u,h,hu=>by
  simp at h
  subst h
  have hj:j<5:=(List.getElem?_eq_some_iff.1 hu).1
  rw [A8,Nat.zero_mul,Nat.zero_add,List.getElem?_append_left (by show j<5;exact hj)]
  exact hu
 | d::l,k+1,j,c,u,h,hu=>by
  have ih:=Dj l k j c u (by simpa using h) hu
  rw [A8,List.getElem?_append_right (by show 5<=_;omega),show(k+1)*5+j-(c5 d).length=k*5+j from by show(k+1)*5+j-5=_;omega]
  exact ih
theorem J6 (l:List PG.Cl): ∀u∈AU l,u.oneCell'=true:=by
 intro u hu
 obtain⟨c,_,hu⟩:=List.mem_flatMap.1 hu
 simp only [c5,List.mem_cons,List.not_mem_nil,or_false] at hu
 rcases hu with rfl | rfl | rfl | rfl | rfl<;>rfl
theorem JK (l:List PG.Cl) (k:Nat):(AU l).take (k*5)=AU (l.take k):=by
 induction l generalizing k with
 | nil=>simp [AU]
 | cons c l ih=>
  cases k with
  | zero=>simp [AU]
  | succ k=>
   rw [A8,List.take_succ_cons,A8,List.take_append, <- ih k,List.take_of_length_le (l:=c5 c) (by show 5<=_;omega)]
   congr 2
   show(k+1)*5-5=k*5
   omega
theorem JL (l:List PG.Cl) (k:Nat):(AU l).drop (k*5)=AU (l.drop k):=by
 induction l generalizing k with
 | nil=>simp [AU]
 | cons c l ih=>
  cases k with
  | zero=>simp
  | succ k=>
   rw [A8,List.drop_succ_cons, <- ih k,List.drop_append,List.drop_of_length_le (l:=c5 c) (by show 5<=_;omega),List.nil_append]
   congr 1
   show(k+1)*5-5=k*5
   omega
def K6 (xs:List Value) (o:Nat) (c:PG.Cl):List Value:=((((xs.set o (.int .i32 (PG.rn c))).set (o+1) (.int .i64 (PG.kd c))).set (o+2) (.int .i64 (PG.pn c).1)).set (o+3) (.int .i64 (PG.pn c).2.1)).set (o+4) (.int .i64 (PG.pn c).2.2)
theorem MR (a:List Value) (xs:List Value) (o:Nat) (c:PG.Cl):K6 (a++xs) (a.length+o) c=a++K6 xs o c:=by
 have h: ∀(ys:List Value) (j:Nat) (u:Value),(a++ys).set (a.length+j) u=a++ys.set j u:=fun ys j u=>by
  rw [List.set_append_right _ _ (by omega),Nat.add_sub_cancel_left]
 unfold K6
 rw [h,Nat.add_assoc,h,Nat.add_assoc,h,Nat.add_assoc,h,Nat.add_assoc,h]
theorem GU: ∀(l:List PG.Cl) (k:Nat) (c:PG.Cl),k<l.length->K6 (AU l) (k*5) c=AU (l.set k c)
 | [],k,c,h=>by simp at h
 | d::l,0,c,h=>by
  rw [List.set_cons_zero,A8,A8]
  rfl
 | d::l,k+1,c,h=>by
  have ih:=GU l k c (by simpa using h)
  rw [List.set_cons_succ,A8,A8, <- ih, <- MR]
  congr 1
  show(k+1)*5=5+k*5
  omega
def BR (w:World) (B:Nat) (A:Option Addr) (n:Nat) (l:List PG.Cl):Prop:=Seen w B A (n*5) (AU l)
section
variable {w w':World} {B B' n:Nat} {A:Option Addr} {l:List PG.Cl}
theorem BR.len (h:BR w B A n l):l.length=n:=by
 have:=h.1
 rw [GR] at this
 omega
theorem BR.Dz (w:World) (B:Nat) (A:Option Addr):BR w B A 0 [] :=Seen.Dz w B A
theorem BR.below (h:BR w B A n l) (hb:Below B w w'):BR w' B A n l:=Seen.below h hb
theorem BR.more (h:BR w B A n l) (hB:B<=B'):BR w B' A n l:=Seen.more h hB
theorem BR.Ct {base:Nat} {e:TypeId} {c:Nat} (h:w.ownsRow base e 5 (.slice A n c) n (AU l)):BR w w.heap.size A n l:=by
 refine⟨h.1,fun j u hu=>?_⟩
 rcases h.2 with ⟨_,rfl⟩ | ⟨g,cap,cur,hv,_,hh,_,_,_,_⟩
 ·have:=h.1
  rw [List.eq_nil_of_length_eq_zero (l:=AU l) (by omega)] at hu
  simp at hu
 ·injection hv with hA
  subst hA
  exact⟨_,rfl,(Array.getElem?_eq_some_iff.1 hh).1,h.cells (g:=g) rfl j u hu⟩
theorem BR.at_ (h:BR w B A n l) {k:Nat} {c:PG.Cl} (hk:l[k]? =some c): ∃ad,A=some ad/\ad.block<B/\ ∀j u,(c5 c)[j]? =some u->w.cell? (ad.add (k*5+j))=some u:=by
 obtain⟨ad,h1,h2,_⟩:=h.2 (k*5+0) _ (Dj l k 0 c _ hk rfl)
 refine⟨ad,h1,h2,fun j u hu=>?_⟩
 obtain⟨ad',h1',_,h3⟩:=h.2 (k*5+j) u (Dj l k j c u hk hu)
 rw [h1] at h1'
 injection h1' with e
 subst e
 exact h3
theorem E8 (ad:Addr) (x j:Nat) (hj:0<j):ad.add (x+j)=⟨(ad.add x).block,(ad.add x).off+j,none⟩:=by
 unfold Addr.add
 by_cases hx:x=0
 ·subst hx
  simp
  omega
 ·rw [if_neg (by omega),if_neg hx]
  simp [Nat.add_assoc]
theorem BR.five (h:BR w B A n l) {k:Nat} {c:PG.Cl} (hk:l[k]? =some c): ∃ad,A=some ad/\ad.block<B/\w.cell? (ad.add (k*5))=some (.int .i32 (PG.rn c))/\w.cell? ⟨(ad.add (k*5)).block,(ad.add (k*5)).off+1,none⟩=some (.int .i64 (PG.kd c))/\
  w.cell? ⟨(ad.add (k*5)).block,(ad.add (k*5)).off+2,none⟩=some (.int .i64 (PG.pn c).1)/\w.cell? ⟨(ad.add (k*5)).block,(ad.add (k*5)).off+3,none⟩=some (.int .i64 (PG.pn c).2.1)/\w.cell? ⟨(ad.add (k*5)).block,(ad.add (k*5)).off+4,none⟩=some (.int .i64 (PG.pn c).2.2):=by
 obtain⟨ad,h1,h2,h3⟩:=h.at_ hk
 refine⟨ad,h1,h2,h3 0 _ rfl,?_,?_,?_,?_⟩
 ·rw [<- E8 ad (k*5) 1 (by omega)];exact h3 1 _ rfl
 ·rw [<- E8 ad (k*5) 2 (by omega)];exact h3 2 _ rfl
 ·rw [<- E8 ad (k*5) 3 (by omega)];exact h3 3 _ rfl
 ·rw [<- E8 ad (k*5) 4 (by omega)];exact h3 4 _ rfl
theorem BR.drop (h:BR w B A n l) {k cap:Nat} (hk:k<=n) (hc:n<=cap):BR w B (if cap=k then A else A.map (·.add (k*5))) (n-k) (l.drop k):=by
 have:=Seen.drop h (k:=k*5) (cap:=cap*5) (by omega) (by omega)
 unfold BR
 rw [<- JL]
 have e:(if cap=k then A else A.map (·.add (k*5)))=(if cap*5=k*5 then A else A.map (·.add (k*5))):=by
  by_cases h:cap=k
  ·rw [if_pos h,if_pos (by omega)]
  ·rw [if_neg h,if_neg (by omega)]
 rw [e,show(n-k)*5=n*5-k*5 from by omega]
 exact this
theorem BR.take (h:BR w B A n l) {k:Nat} (hk:k<=n):BR w B A k (l.take k):=by
 unfold BR
 rw [<- JK]
 exact Seen.take h (by omega)
end
def En (w:World) (g o:Nat) (c:PG.Cl):World:=((((w.setCell ⟨g,o,none⟩ (.int .i32 (PG.rn c))).setCell ⟨g,o+1,none⟩ (.int .i64 (PG.kd c))).setCell ⟨g,o+2,none⟩ (.int .i64 (PG.pn c).1)).setCell ⟨g,o+3,none⟩ (.int .i64 (PG.pn c).2.1)).setCell ⟨g,o+4,none⟩ (.int .i64 (PG.pn c).2.2)
theorem J7 {w w1 w2 w3 w4 w5:World} {r:Option Nat} (h1:w.grownBy w1 r) (h2:w1.grownBy w2 r) (h3:w2.grownBy w3 r) (h4:w3.grownBy w4 r) (h5:w4.grownBy w5 r):w.grownBy w5 r:=by
 have two: ∀{a b c:World},a.grownBy b r->b.grownBy c r->a.grownBy c r:=fun h k=>
  ⟨k.os.trans h.os,k.tape.trans h.tape,k.output.trans h.output,Nat.le_trans h.size k.size,fun i hi hne=>(k.block i (Nat.lt_of_lt_of_le hi h.size) hne).trans (h.block i hi hne)⟩
 exact two (two (two (two h1 h2) h3) h4) h5
theorem GV {w:World} {base n g cap:Nat} {e:TypeId} {l:List PG.Cl} (h:w.ownsRow base e 5 (.slice (some ⟨g,0,none⟩) n cap) n (AU l)) {k:Nat} (c:PG.Cl) (hk:k<n) (hl:l.length=n):
  (En w g (k*5) c).ownsRow base e 5 (.slice (some ⟨g,0,none⟩) n cap) n (AU (l.set k c))/\w.grownBy (En w g (k*5) c) (some g):=by
 obtain⟨h1,g1⟩:=h.stored (k*5) (.int .i32 (PG.rn c))
 obtain⟨h2,g2⟩:=h1.stored (k*5+1) (.int .i64 (PG.kd c))
 obtain⟨h3,g3⟩:=h2.stored (k*5+2) (.int .i64 (PG.pn c).1)
 obtain⟨h4,g4⟩:=h3.stored (k*5+3) (.int .i64 (PG.pn c).2.1)
 obtain⟨h5,g5⟩:=h4.stored (k*5+4) (.int .i64 (PG.pn c).2.2)
 refine⟨?_,?_⟩
 ·rw [<- GU l k c (by omega)]
  exact h5
 ·exact J7 g1 g2 g3 g4 g5
theorem JM {w:World} {base n g cap:Nat} {e:TypeId} {l:List PG.Cl} (h:w.ownsRow base e 5 (.slice (some ⟨g,0,none⟩) n cap) n (AU l)) {k:Nat} {c:PG.Cl} (hk:l[k]? =some c):
  w.cell? ⟨g,k*5,none⟩=some (.int .i32 (PG.rn c))/\w.cell? ⟨g,k*5+1,none⟩=some (.int .i64 (PG.kd c))/\w.cell? ⟨g,k*5+2,none⟩=some (.int .i64 (PG.pn c).1)/\w.cell? ⟨g,k*5+3,none⟩=some (.int .i64 (PG.pn c).2.1)/\w.cell? ⟨g,k*5+4,none⟩=some (.int .i64 (PG.pn c).2.2)/\
  w.frozen? ⟨g,k*5,none⟩=false/\w.frozen? ⟨g,k*5+1,none⟩=false/\w.frozen? ⟨g,k*5+2,none⟩=false/\w.frozen? ⟨g,k*5+3,none⟩=false/\w.frozen? ⟨g,k*5+4,none⟩=false:=by
 have at_: ∀j u,(c5 c)[j]? =some u->w.cell? ⟨g,k*5+j,none⟩=some u:=fun j u hu=>by
  have h1:=Dj l k j c u hk hu
  have:=h.cells (g:=g) rfl (k*5+j) u h1
  rw [Addr.add_lit,Nat.zero_add] at this
  exact this
 exact⟨at_ 0 _ rfl,at_ 1 _ rfl,at_ 2 _ rfl,at_ 3 _ rfl,at_ 4 _ rfl,h.frozenAt _,h.frozenAt _,h.frozenAt _,h.frozenAt _,h.frozenAt _⟩
theorem OD {P:Program} {w:World} {o:Oper} {a:Act} {K:Act->World->Prop} {Q:Exit->Act->World->Prop} (s x:Operand) (t:TypeId)
  (ho:o.op=.call {callee:=.builtin .append,args:= #[s,x],argTypes:= #[t,t]})
  (base:Nat) (e:TypeId) (i:TypeInfo) (z:Value) (bytes:Nat) (ht:P.underlying t=some (.slice e)) (hi:P.info? e=some i) (hz:i.zero=some z)
  (hsize:i.size=5) (hby:i.bytes=bytes) (hzs:z.cells.size=5)
  (v:Value) (n:Nat) (xs:List PG.Cl) (hs:a.eval s=v) (hown:w.ownsRow base e 5 v n (AU xs))
  (B:Nat) (A:Option Addr) (m c:Nat) (ys:List PG.Cl) (hx:a.eval x=.slice A m c) (hy:BR w B A m ys) (hb8:bytes<=64) (hn:n+m<=1099511627776) (hbase:base<=w.heap.size)
  (h: ∀v' w',w'.ownsRow base e 5 v' (n+m) (AU (xs++ys))->w.grownBy w' v.ownBlock->Moved w v v'->K (a.put o.dst v') w'):
  o.wp P a w K Q:=by
 rw [DY] at h
 have hlen:=hy.len
 rcases A with _ | ad
 ·have hn0:ys= [] :=by
   rcases ys with _ | ⟨y,ys⟩
   ·rfl
   ·obtain⟨ad,h0,_⟩:=hy.at_ (k:=0) rfl
    cases h0
  subst hn0
  have hm:m=0:=by simpa using hlen.symm
  subst hm
  have hrun:(Builtin.append_ #[t,t] o.type #[v,.slice none 0 c]).run P w=.ok v w:=by
   rcases hown.2 with ⟨rfl,rfl⟩ | ⟨g,cap,cur,rfl,_,_,hnc,_⟩
   ·simp [Builtin.append_,run_underlying ht,sizeOf,typeInfo,hi,Builtin.lenOf,Builtin.firstCells]
   ·simp [Builtin.append_,run_underlying ht,sizeOf,typeInfo,hi,Builtin.lenOf,Builtin.firstCells,hnc,storeCells]
  unfold Oper.wp
  simp [execOp,ho,resolve,invoke,builtin,hs,hx,hrun,Result.andThen]
  exact h v w (by simpa [AU] using hown) (Ef _ _) (.inl rfl)
 ·obtain⟨v',w',hr,h2,h3,_,h5⟩:=run_append_own_at (P:=P) w base t o.type e i z 5 bytes ht hi hz hsize hby hzs (by omega) v n (AU xs) hown ad m c (AU ys) hy.1 (fun j u hu=>by
   obtain⟨ad',h1,_,h3⟩:=hy.2 j u hu
   injection h1 with h1
   subst h1
   exact h3) (J6 ys) (by simp only [maxLen];omega) (by have:(n+m)*bytes<=1099511627776*64:=Nat.mul_le_mul hn hb8;omega) hbase
  unfold Oper.wp execOp
  simp only [ho,resolve,invoke,builtin,Sem.run_bind,Sem.run_pure,Result.andThen_ok,List.map_toArray,List.map_cons,List.map_nil,hs,hx,hr]
  refine h v' w' h2 h3 ?_
  rcases h5 with hat | hat
  ·exact .inl hat
  ·exact .inr ⟨_,hat,Nat.le_refl _⟩
theorem JN {P:Program} {w:World} {ops:Array Oper} {rest:List Oper} {o:Oper} {a:Act} {Q:Exit->Act->World->Prop} (hgd:o.guard=none) (s x:Operand) (t:TypeId)
  (ho:o.op=.call {callee:=.builtin .append,args:= #[s,x],argTypes:= #[t,t]})
  (base:Nat) (e:TypeId) (i:TypeInfo) (z:Value) (bytes:Nat) (ht:P.underlying t=some (.slice e)) (hi:P.info? e=some i) (hz:i.zero=some z)
  (hsize:i.size=5) (hby:i.bytes=bytes) (hzs:z.cells.size=5)
  (v:Value) (n:Nat) (xs:List PG.Cl) (hs:a.eval s=v) (hown:w.ownsRow base e 5 v n (AU xs))
  (B:Nat) (A:Option Addr) (m c:Nat) (ys:List PG.Cl) (hx:a.eval x=.slice A m c) (hy:BR w B A m ys) (hb8:bytes<=64) (hn:n+m<=1099511627776) (hbase:base<=w.heap.size)
  (h: ∀v' w',w'.ownsRow base e 5 v' (n+m) (AU (xs++ys))->w.grownBy w' v.ownBlock->Moved w v v'->wpList P ops Q rest (a.put o.dst v') w'):
  wpList P ops Q (o::rest) a w:=
 wpList_plain hgd fun _ hK=>OD s x t ho base e i z bytes ht hi hz hsize hby hzs v n xs hs hown B A m c ys hx hy hb8 hn hbase fun v' w' h2 h3 h4=>hK _ _ (h v' w' h2 h3 h4)
end Go.Proofs.YtoaabebgmdbjeaaDoor
namespace Go.Proofs.YtoaabebgmdbjeaaDoor
open Go.RowKit
def gv (R K:Nat) (s:Value):Value:=.agg #[.int .i64 R,.int .i64 K,s]
def Hw:Value:=.agg #[.int .i32 0,.int .i64 0,.int .i64 0,.int .i64 0,.int .i64 0]
theorem Hy:(Tryd.prog.info? 66).map (fun i=>(i.zero,i.size,i.bytes))=some (some Hw,5,40):=by kernel_rfl
theorem GX:Hw.cells.size=5:=rfl
theorem OE {w w1:World} {t0 t1:TypeId} {cs ds:Array Value} (hg:Below ((w.alloc (.cells cs t0)).alloc (.cells ds t1)).heap.size ((w.alloc (.cells cs t0)).alloc (.cells ds t1)) w1):Box w1 w.heap.size t0 cs/\Box w1 (w.heap.size+1) t1 ds/\Below w.heap.size w w1:=by
 refine⟨((Box.new w t0 cs).alloc _).below hg (by simp;omega),?_,?_⟩
 ·have h:=Box.new (w.alloc (.cells cs t0)) t1 ds
  rw [show(w.alloc (.cells cs t0)).heap.size=w.heap.size+1 from by simp] at h
  exact h.below hg (by simp)
 ·exact(((Below.refl _ _).alloc (Nat.le_refl _) _).alloc (by simp) _).trans (hg.mono (by simp;omega))
def MS (w:World) (R K:Nat) (l:List PG.Cl) (e:Ending) (w':World):Prop:= ∃v,e=.returned (gv R K v)/\w'.ownsRow w.heap.size 66 5 v l.length (AU l)/\Below w.heap.size w w'
end Go.Proofs.YtoaabebgmdbjeaaDoor
namespace Go.Proofs.YtoaabebgmdbjeaaDoor
open Go.RowKit
theorem J8 (n:Nat):(madeCells Hw.cells (n*5)).toList=AU (List.replicate n PG.none):=by
 have hz:Hw.cells= #[.int .i32 0,.int .i64 0,.int .i64 0,.int .i64 0,.int .i64 0] :=rfl
 refine List.ext_getElem? fun j=>?_
 by_cases hj:j<n*5
 ·have hk:j / 5<n:=by omega
  have hr:(List.replicate n PG.none)[j / 5]? =some PG.none:=by rw [List.getElem?_replicate,if_pos hk]
  have h5:j%5<5:=by omega
  have hu: ∃u,(c5 PG.none)[j%5]? =some u/\Hw.cells[j%Hw.cells.size]! =u:=by
   rw [hz]
   have hs:(#[Value.int .i32 0,.int .i64 0,.int .i64 0,.int .i64 0,.int .i64 0] :Array Value).size=5:=rfl
   rw [hs]
   generalize j%5=k at h5
   obtain rfl | rfl | rfl | rfl | rfl:k=0\/k=1\/k=2\/k=3\/k=4:=by omega
   all_goals exact⟨_,rfl,rfl⟩
  obtain⟨u,h1,h2⟩:=hu
  have h3:=Dj _ _ _ _ _ hr h1
  rw [show j / 5*5+j%5=j by omega] at h3
  rw [h3]
  unfold madeCells
  rw [Array.toList_map,Array.toList_range,List.getElem?_map,List.getElem?_range hj,Option.map_some,h2]
 ·rw [List.getElem?_eq_none (by simp [madeCells];omega),List.getElem?_eq_none (by rw [GR,List.length_replicate];omega)]
theorem Kept.JO {w w':World} {r:Option Nat} (h:w.grownBy w' r):Kept [r] w w':=⟨h.os,h.tape,h.output,h.size,fun i hi hn=>h.block i hi (by simpa using hn)⟩
end Go.Proofs.YtoaabebgmdbjeaaDoor
namespace Go.Proofs.YtoaabebgmdbjeaaDoor
open Go.RowKit
end Go.Proofs.YtoaabebgmdbjeaaDoor
namespace Go.Proofs.YtoaabebgmdbjeaaDoor
open Go.RowKit
end Go.Proofs.YtoaabebgmdbjeaaDoor
namespace Go.Proofs.YtoaabebgmdbjeaaDoor
open Go.RowKit
theorem K7 (w:World):Calls Tryd.prog 15 #[] w fun e w'=>e=.returned (.agg #[.int .i64 (-1),.int .i64 (-1),.int .i64 0])/\w.alloc (.cells #[.int .i64 (-1),.int .i64 (-1),.int .i64 0] 26)=w':=by
 go_enter Tryd.func15,Tryd.ntmps15
 go_wp2
 exact bodyPost_ret (v:=.agg #[.int .i64 (-1),.int .i64 (-1),.int .i64 0]) (by simp [results,Tryd.results15,go_sem]) rfl ⟨rfl,rfl⟩
theorem K8 (f b g:Int) (w:World):Calls Tryd.prog 24 #[.agg #[.int .i64 f,.int .i64 b,.int .i64 g]] w fun e w'=>e=.returned (.agg #[.int .i32 32,.int .i64 0,.int .i64 f,.int .i64 b,.int .i64 g])/\Below w.heap.size w w':=by
 go_enter Tryd.func24,Tryd.ntmps24
 go_wp2
 exact bodyPost_ret (v:=.agg #[.int .i32 32,.int .i64 0,.int .i64 f,.int .i64 b,.int .i64 g]) (by simp [results,Tryd.results24,go_sem]) rfl ⟨rfl,((Below.refl _ _).alloc (Nat.le_refl _) _).alloc (by simp) _⟩
end Go.Proofs.YtoaabebgmdbjeaaDoor
namespace Go.Proofs.YtoaabebgmdbjeaaDoor
open Go.RowKit
end Go.Proofs.YtoaabebgmdbjeaaDoor
namespace Go.Proofs.YtoaabebgmdbjeaaDoor
open Go.RowKit
end Go.Proofs.YtoaabebgmdbjeaaDoor
namespace Go.Proofs.YtoaabebgmdbjeaaDoor
open Go.RowKit
end Go.Proofs.YtoaabebgmdbjeaaDoor
namespace Go.Proofs.YtoaabebgmdbjeaaDoor
open Go.RowKit
def MU (w:World) (R K n:Nat) (l:List PG.Cl) (e:Ending) (w':World):Prop:= ∃g,e=.returned (gv R K (.slice (some ⟨g,0,none⟩) n n))/\w'.ownsRow w.heap.size 66 5 (.slice (some ⟨g,0,none⟩) n n) n (AU l)/\Below w.heap.size w w'
theorem J9 {n k:Nat} (p:PG.Pn) (hk:k<n):(List.replicate k (PG.blank p)++List.replicate (n-k) PG.none).set k (PG.blank p)=List.replicate (k+1) (PG.blank p)++List.replicate (n-(k+1)) PG.none:=by
 rw [List.set_append_right _ _ (by simp),List.length_replicate,Nat.sub_self,show n-k=(n-(k+1))+1 by omega,List.replicate_succ (n:=n-(k+1)),List.set_cons_zero,List.replicate_succ' (n:=k)]
 simp
end Go.Proofs.YtoaabebgmdbjeaaDoor
namespace Go.Proofs.YtoaabebgmdbjeaaDoor
open Go.RowKit
theorem OG (r c:Int) (R K:Nat) (p:PG.Pn) (w:World) (hr0: -9223372036854775808<=r) (hr1:r<=9223372036854775807) (hc0: -9223372036854775808<=c) (hc1:c<=9223372036854775807)
  (hR:(R=1/\r<1)\/((R:Int)=r/\1<=r/\r<=40)\/(R=40/\40<r)) (hK:(K=1/\c<1)\/((K:Int)=c/\1<=c/\c<=60)\/(K=60/\60<c)):
  Calls Tryd.prog 14 #[.int .i64 r,.int .i64 c,pv p] w (MU w R K (R*K) (List.replicate (R*K) (PG.blank p))):=by
 obtain⟨i0,hi,hz0,hz1,hz2⟩:=info_parts Hy
 have BC: ∀(p:PG.Pn) (w':World),Calls Tryd.prog 24 #[.agg #[.int .i64 p.1,.int .i64 p.2.1,.int .i64 p.2.2]] w' fun e w''=>e=.returned (.agg #[.int .i32 32,.int .i64 0,.int .i64 p.1,.int .i64 p.2.1,.int .i64 p.2.2])/\Below w'.heap.size w' w'':=fun p w'=>K8 _ _ _ w'
 have BC:=hide BC
 have hR1:1<=R/\R<=40:=by omega
 have hK1:1<=K/\K<=60:=by omega
 have eRK:(R:Int)*(K:Int)=((R*K:Nat):Int):=by simp
 have hn1:1<=R*K:=Nat.mul_le_mul hR1.1 hK1.1
 have hn2:R*K<=2400:=Nat.mul_le_mul hR1.2 hK1.2
 have hby:=hide (show i0.bytes*(R*K)<=281474976710656 by rw [hz2];omega)
 obtain⟨r1,e1⟩: ∃r1,(if r<1 then (1:Int) else r)=r1:=⟨_,rfl⟩
 obtain⟨c1,e3⟩: ∃c1,(if c<1 then (1:Int) else c)=c1:=⟨_,rfl⟩
 have e2:(if (40:Int)<r1 then (40:Int) else r1)=(R:Int):=by rw [<- e1];split<;>split<;>omega
 have e4:(if (60:Int)<c1 then (60:Int) else c1)=(K:Int):=by rw [<- e3];split<;>split<;>omega
 clear hR hK hz2
 generalize R*K=n at*
 unfold MU pv gv
 go_enter Tryd.func14,Tryd.ntmps14
 go_wp2_with (
  at_make
  go_must (refine wpList_make_full _ rfl (.tmp 17) (.tmp 17) 22 rfl w.heap.size 66 i0 _ 5 Tryd.underlying22 hi hz0 hz1 .i64 .i64 _ _ n rfl rfl (by omega) (by omega) hby.out (by simp only [maxLen];omega) (by simp;omega) ?_)
  intro w1 hown1 hg1
  rw [J8,World.size_alloc,World.size_alloc] at hown1
  obtain⟨x0,x1,bb⟩:=OE (Cg hg1 (Nat.le_refl _) (by simp))
  have hown1:=hide hown1
  clear hg1 e1 e2 e3 e4)
 go_loopw [21] (fun i wr=> ∃k:Nat,k<=n/\i=.int .i64 k/\Box wr w.heap.size 26 #[.int .i64 p.1,.int .i64 p.2.1,.int .i64 p.2.2] /\Box wr (w.heap.size+1) 24 #[.int .i64 0,.int .i64 0,.slice none 0 0] /\
   wr.ownsRow w.heap.size 66 5 (.slice (some ⟨w.heap.size+1+1,0,none⟩) n n) n (AU (List.replicate k (PG.blank p)++List.replicate (n-k) PG.none))/\Below w.heap.size w wr)
  (fun i _=>n-(intOf i).toNat)
 case atStart=>exact⟨0,Nat.zero_le _,rfl,x0,x1,by rw [List.replicate_zero,List.nil_append,Nat.sub_zero];exact hown1.out,bb⟩
 case round=>
  clear hown1 bb x0 x1 hby
  obtain⟨k,hk,rfl,x0,x1,ho,hb⟩:=hrel
  obtain⟨y0,y1,y2,_⟩:=x0.three
  have l0:=x0.lt
  have l2:w.heap.size+1+1<wr.heap.size:=(ho.lt _ rfl).2
  have lb:w.heap.size<=wr.heap.size:=hb.size
  by_cases hlt:k<n
  ·have hll:(List.replicate k (PG.blank p)++List.replicate (n-k) PG.none).length=n:=by simp;omega
   have hck:(List.replicate k (PG.blank p)++List.replicate (n-k) PG.none)[k]? =some PG.none:=by
    rw [List.getElem?_append_right (by simp),List.length_replicate,Nat.sub_self,List.getElem?_replicate,if_pos (by omega)]
   have FIN: ∀w3,Below wr.heap.size wr w3->
     (w3.cell? ⟨w.heap.size+1+1,k*5,none⟩=some (.int .i32 (PG.rn PG.none))/\w3.cell? ⟨w.heap.size+1+1,k*5+1,none⟩=some (.int .i64 (PG.kd PG.none))/\w3.cell? ⟨w.heap.size+1+1,k*5+2,none⟩=some (.int .i64 (PG.pn PG.none).1)/\w3.cell? ⟨w.heap.size+1+1,k*5+3,none⟩=some (.int .i64 (PG.pn PG.none).2.1)/\w3.cell? ⟨w.heap.size+1+1,k*5+4,none⟩=some (.int .i64 (PG.pn PG.none).2.2)/\
      w3.frozen? ⟨w.heap.size+1+1,k*5,none⟩=false/\w3.frozen? ⟨w.heap.size+1+1,k*5+1,none⟩=false/\w3.frozen? ⟨w.heap.size+1+1,k*5+2,none⟩=false/\w3.frozen? ⟨w.heap.size+1+1,k*5+3,none⟩=false/\w3.frozen? ⟨w.heap.size+1+1,k*5+4,none⟩=false)/\
     Box (En w3 (w.heap.size+1+1) (k*5) (PG.blank p)) w.heap.size 26 #[.int .i64 p.1,.int .i64 p.2.1,.int .i64 p.2.2] /\Box (En w3 (w.heap.size+1+1) (k*5) (PG.blank p)) (w.heap.size+1) 24 #[.int .i64 0,.int .i64 0,.slice none 0 0] /\
     (En w3 (w.heap.size+1+1) (k*5) (PG.blank p)).ownsRow w.heap.size 66 5 (.slice (some ⟨w.heap.size+1+1,0,none⟩) n n) n (AU (List.replicate (k+1) (PG.blank p)++List.replicate (n-(k+1)) PG.none))/\Below w.heap.size w (En w3 (w.heap.size+1+1) (k*5) (PG.blank p)):=fun w3 h3=>by
    have o3:=ho.kept (Ce h3 none) (by simp [Value.ownBlock])
    have S:=GV o3 (k:=k) (PG.blank p) (by omega) hll
    have hs3:=h3.size
    refine⟨JM o3 hck,(x0.below h3 x0.lt).grown S.2 (fun e=>by injection e with e;omega),(x1.below h3 x1.lt).grown S.2 (fun e=>by injection e with e;omega),?_,(hb.trans (h3.mono lb)).grown S.2 (by omega) (by rintro _ ⟨⟩;omega)⟩
    rw [<- J9 p hlt]
    exact S.1
   have FIN:=hide FIN
   clear ho hck x0 x1 hll
   go_wp2_with (
    go_at_call 24
    go_must (refine(BC.out p _).mono ?_)
    rintro e w3 ⟨rfl,b3⟩
    obtain⟨⟨v0,v1,v2,v3,v4,f0,f1,f2,f3,f4⟩,G2⟩:=FIN.out _ b3
    have G2:=hide G2
    clear b3 FIN)
   go_roundw
   case rel=>exact⟨k+1,by omega,by go_num,G2.out⟩
   case measure=>simp [intOf];omega
  ·obtain rfl:k=n:=by omega
   rw [Nat.sub_self,List.replicate_zero,List.append_nil] at ho
   have n1:=AP ho x1 (by decide)
   have X:=x1.FN (.int .i64 R) (.int .i64 K) (.slice (some ⟨w.heap.size+1+1,0,none⟩) k k)
   have O:=ownsRow_setCell_other (ownsRow_setCell_other (ownsRow_setCell_other ho (a:=⟨w.heap.size+1,0,none⟩) n1 (.int .i64 R)) (a:=⟨w.heap.size+1,1,none⟩) n1 (.int .i64 K)) (a:=⟨w.heap.size+1,2,none⟩) n1 (.slice (some ⟨w.heap.size+1+1,0,none⟩) k k)
   have bz:=F7 hb (show w.heap.size<=w.heap.size+1 by omega) (.int .i64 R) (.int .i64 K) (.slice (some ⟨w.heap.size+1+1,0,none⟩) k k)
   obtain⟨j0,j1,j2,_⟩:=X.three
   obtain⟨q0,q1,q2,q3,q4,q5⟩:=x1.three
   have O:=hide O
   have bz:=hide bz
   clear ho BC
   go_wp2_with fail
   refine bodyPost_ret (v:=.agg #[.int .i64 R,.int .i64 K,.slice (some ⟨w.heap.size+1+1,0,none⟩) k k]) (by simp [results,Tryd.results14,go_sem,j0,j1,j2]) rfl ⟨_,rfl,O.out,bz.out⟩
end Go.Proofs.YtoaabebgmdbjeaaDoor
namespace Go.Proofs.YtoaabebgmdbjeaaDoor
open Go Go.RowKit
end Go.Proofs.YtoaabebgmdbjeaaDoor
namespace Go.Proofs.YtoaabebgmdbjeaaDoor
open Go.RowKit
end Go.Proofs.YtoaabebgmdbjeaaDoor
namespace Go.Proofs.YtoaabebgmdbjeaaDoor
open Go.RowKit
end Go.Proofs.YtoaabebgmdbjeaaDoor
namespace Go.Proofs.YtoaabebgmdbjeaaDoor
open Go.RowKit
end Go.Proofs.YtoaabebgmdbjeaaDoor
namespace Go.Proofs.YtoaabebgmdbjeaaDoor
open Go.RowKit
end Go.Proofs.YtoaabebgmdbjeaaDoor
namespace Go.Proofs.YtoaabebgmdbjeaaDoor.PG
theorem D9 {n j:Nat} {f:Nat->Cl} (hj:j<n):((List.range n).map f)[j]? =some (f j):=by rw [List.getElem?_map,List.getElem?_range hj];rfl
theorem K9 (R K:Nat) (p:Pn):List.replicate (R*K) (blank p)=cells (newG R K p):=by
 refine I4 (g:=newG R K p) (by rw [List.length_replicate];rfl) fun i j hi hj=>?_
 have h:i*(newG R K p).AO+j<R*K:=F9 (show i<R from hi) (show j<K from hj)
 rw [List.getElem?_replicate,if_pos h]
 rfl
def over (f:Nat->Cl) (c:Nat) (x:Int) (p:Pn) (w:Nat) (j:Nat):Cl:=if j=c then (x,if w=2 then 1 else 0,p) else if w=2/\j=c+1 then (0,2,p) else f j
def under (g:Gr) (i j:Nat):Cl:=if i<g.rows/\j<g.AO then g.f i j else blank plain
def P9 (g:Gr) (R K k:Nat):Gr:=⟨R,K,fun i j=>if i<k then mend (under g i) K j else blank plain⟩
end Go.Proofs.YtoaabebgmdbjeaaDoor.PG
namespace Go.Proofs.YtoaabebgmdbjeaaDoor
open Go.RowKit
end Go.Proofs.YtoaabebgmdbjeaaDoor
namespace Go.Proofs.YtoaabebgmdbjeaaDoor
open Go.RowKit
end Go.Proofs.YtoaabebgmdbjeaaDoor
namespace Go.Proofs.YtoaabebgmdbjeaaDoor
open Go.RowKit
end Go.Proofs.YtoaabebgmdbjeaaDoor
namespace Go.Proofs.YtoaabebgmdbjeaaDoor
open Go.RowKit
end Go.Proofs.YtoaabebgmdbjeaaDoor
namespace Go.Proofs.YtoaabebgmdbjeaaDoor
open Go.RowKit
end Go.Proofs.YtoaabebgmdbjeaaDoor
namespace Go.Proofs.YtoaabebgmdbjeaaDoor
open Go.RowKit
end Go.Proofs.YtoaabebgmdbjeaaDoor
