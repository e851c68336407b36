/- Words for memory, over any program: a slice that reads as a list; worlds that keep what was there; append of one cell and of a list onto a row of the call's own. Go's '&', '|' on int, int32, uint8 as arithmetic: masks, and joins of parts that don't overlap. A call's ending, told of equal values. A slice of numbers that came in, as laws are told of it. Lists of numbers in memory: what a call appends, what a call gives back; what was just laid. What the type int is. linguistbook's Within: a number brought into lo .. hi. What a region that draws its order, and holds calls that make memory, may have made of a world: all that was there stays. A package-level variable of plain data (numbers, truths, texts, in structs and arrays): what its datum says is what its block holds, cell for cell. Arguments by value, opened: a struct of three ints. -/
import Derived.WalkKit
import Derived.ProofKit
import Derived.Below
import Derived.Laws.OwnMore
import Derived.Maps.AppendAt
import Derived.Deep.Draws
import Derived.WalkSmall
import Derived.Lib.Hide
import Derived.RegionTactic
import Derived.Laws.BitsAllLaws
import Derived.Test.YtoaabebgmdbjeaaGreatDoorRows
import Derived.WalkSpells
import Derived.WalkLawsBesides
import Derived.OpenShut
import Derived.ChangeArms
import Derived.MakeChecks
import GoSem.ClaimJoined
import Derived.Lib.SmallJoins
set_option maxRecDepth 100000
set_option maxHeartbeats 16000000
set_option linter.unusedVariables false
namespace Go.Proofs.YtoaabebgmdbjeaaGreatDoor
open Go.RowKit
def Seen (w:World) (B:Nat) (A:Option Addr) (n:Nat) (xs:List Value):Prop:=
 xs.length=n/\ ∀j u,xs[j]? =some u-> ∃ad,A=some ad/\ad.block<B/\w.cell? (ad.add j)=some u
theorem addBlock (a:Addr) (n:Nat):(a.add n).block=a.block:=by unfold Addr.add;split<;>rfl
theorem kQ (a:Addr) (i j:Nat):(a.add i).add j=a.add (i+j):=by
 unfold Addr.add
 by_cases hi:i=0<;>by_cases hj:j=0<;>simp [hi,hj,Nat.add_assoc]
section
variable {w w':World} {B B' n:Nat} {A:Option Addr} {xs:List Value}
theorem Seen.Xu (w:World) (B:Nat) (A:Option Addr):Seen w B A 0 [] :=⟨rfl,fun j u h=>by simp at h⟩
theorem Seen.at_ (h:Seen w B A n xs) {k:Nat} (hk:k<n): ∃ad u,A=some ad/\ad.block<B/\xs[k]? =some u/\w.cell? (ad.add k)=some u:=by
 have hl:k<xs.length:=by rw [h.1];exact hk
 obtain⟨ad,h1,h2,h3⟩:=h.2 k xs[k] (List.getElem?_eq_getElem hl)
 exact⟨ad,xs[k],h1,h2,List.getElem?_eq_getElem hl,h3⟩
theorem Seen.keep (h:Seen w B A n xs) (hk: ∀p:Addr,p.block<B->w'.cell? p=w.cell? p):Seen w' B A n xs:=
 ⟨h.1,fun j u hu=>by
  obtain⟨ad,h1,h2,h3⟩:=h.2 j u hu
  exact⟨ad,h1,h2,(hk _ (by rw [addBlock];exact h2)).trans h3⟩⟩
theorem Seen.more (h:Seen w B A n xs) (hB:B<=B'):Seen w B' A n xs:=
 ⟨h.1,fun j u hu=>by
  obtain⟨ad,h1,h2,h3⟩:=h.2 j u hu
  exact⟨ad,h1,by omega,h3⟩⟩
theorem Seen.below (h:Seen w B A n xs) (hb:Below B w w'):Seen w' B A n xs:=h.keep fun _ hp=>hb.cell hp
theorem Seen.drewN (h:Seen w B A n xs) (k:Nat):Seen (w.drewN k) B A n xs:=h
theorem Seen.drew (h:Seen w B A n xs):Seen w.drew B A n xs:=h
theorem Seen.alloc (h:Seen w B A n xs) (hB:B<=w.heap.size) (o:Obj):Seen (w.alloc o) B A n xs:=h.keep fun p hp=>World.cell?_alloc_lt w o p (by omega)
theorem Seen.grown (h:Seen w B A n xs) {row:Option Nat} (hg:w.grownBy w' row) (hB:B<=w.heap.size) (hr: ∀g,row=some g->B<=g):Seen w' B A n xs:=
 h.keep fun p hp=>World.cell?_of_block (hg.block p.block (by omega) (fun e=>by have:=hr _ e.symm;omega))
theorem Seen.take (h:Seen w B A n xs) {k:Nat} (hk:k<=n):Seen w B A k (xs.take k):=by
 refine⟨by rw [List.length_take,h.1];omega,fun j u hu=>?_⟩
 rw [List.getElem?_take] at hu
 split at hu
 ·exact h.2 j u hu
 ·cases hu
theorem Seen.drop (h:Seen w B A n xs) {k cap:Nat} (hk:k<=n) (hc:n<=cap):
  Seen w B (if cap=k then A else A.map (·.add k)) (n-k) (xs.drop k):=by
 refine⟨by rw [List.length_drop,h.1],fun j u hu=>?_⟩
 rw [List.getElem?_drop] at hu
 obtain⟨ad,h1,h2,h3⟩:=h.2 (k+j) u hu
 have hl:k+j<xs.length:=(List.getElem?_eq_some_iff.1 hu).1
 rw [h.1] at hl
 rw [if_neg (by omega)]
 exact⟨ad.add k,by rw [h1];rfl,by rw [addBlock];exact h2,by rw [kQ];exact h3⟩
theorem Seen.Bu {base:Nat} {e:TypeId} {c:Nat} (h:w.ownsRow base e 1 (.slice A n c) n xs):Seen w w.heap.size A n xs:=by
 refine⟨by simpa using h.1,fun j u hu=>?_⟩
 rcases h.2 with ⟨_,rfl⟩ | ⟨g,cap,cur,hv,_,hh,_,_,_,_⟩
 ·have:xs= [] :=List.eq_nil_of_length_eq_zero (by simpa using h.1)
  subst this
  simp at hu
 ·injection hv with hA
  subst hA
  exact⟨_,rfl,(Array.getElem?_eq_some_iff.1 hh).1,h.cells (g:=g) rfl j u hu⟩
end
theorem C9 {w:World} {base n:Nat} {e:TypeId} {v:Value} {xs:List Value} (h:w.ownsRow base e 1 v n xs):
  ∃A c,v=.slice A n c/\n<=c/\c<=maxLen/\ ∀g,v.ownBlock=some g->base<=g/\g<w.heap.size:=by
 have hlt:=h.lt
 rcases h.2 with ⟨rfl,rfl⟩ | ⟨g,cap,cur,rfl,_,hh,h1,h2,_,_⟩
 ·exact⟨none,0,rfl,Nat.le_refl _,Nat.zero_le _,hlt⟩
 ·exact⟨_,_,rfl,h1,h2,hlt⟩
def Moved (w:World) (v v':Value):Prop:=v'.ownBlock=v.ownBlock\/ ∃g,v'.ownBlock=some g/\w.heap.size<=g
theorem Moved.refl (w:World) (v:Value):Moved w v v:=.inl rfl
theorem Moved.trans {w w1:World} {a b c:Value} (h:Moved w a b) (k:Moved w1 b c) (hs:w.heap.size<=w1.heap.size):Moved w a c:=by
 rcases k with k | ⟨g,k1,k2⟩
 ·rcases h with h | ⟨g,h1,h2⟩
  ·exact .inl (k.trans h)
  ·exact .inr ⟨g,k.trans h1,h2⟩
 ·exact .inr ⟨g,k1,by omega⟩
theorem JR {w w1 w2:World} {a b:Value} (h:w.grownBy w1 a.ownBlock) (m:Moved w a b) (k:w1.grownBy w2 b.ownBlock):w.grownBy w2 a.ownBlock:=
 ⟨k.os.trans h.os,k.tape.trans h.tape,k.output.trans h.output,Nat.le_trans h.size k.size,fun i hi hne=>by
  refine(k.block i (Nat.lt_of_lt_of_le hi h.size) (fun e=>?_)).trans (h.block i hi hne)
  rcases m with m | ⟨g,m1,m2⟩
  ·exact hne (e.trans m)
  ·rw [m1] at e
   injection e with e
   omega⟩
theorem DU {a w:World} {row:Option Nat} (h:a.grownBy w row) (o:Obj):a.grownBy (w.alloc o) row:=
 ⟨h.os,h.tape,h.output,Nat.le_trans h.size (by simp),fun i hi hne=>(Below.heap_alloc w o i (Nat.lt_of_lt_of_le hi h.size)).trans (h.block i hi hne)⟩
theorem Gb {a w:World} {row:Option Nat} (h:a.grownBy w row) {p:Addr} (hp:a.heap.size<=p.block) (u:Value):a.grownBy (w.setCell p u) row:=
 ⟨h.os,h.tape,h.output,by simpa [World.setCell] using h.size,fun i hi hne=>(Below.heap_setCell w p u i (by omega)).trans (h.block i hi hne)⟩
theorem BS {a w:World} (h:Below a.heap.size a w) (row:Option Nat):a.grownBy w row:=⟨h.os,h.tape,h.output,h.size,fun i hi _=>h.block i hi⟩
theorem Dh {a w:World} {row:Option Nat} {B:Nat} (h:a.grownBy w row) (hB:B<=a.heap.size) (hr: ∀g,row=some g->B<=g):Below B a w:=
 ⟨h.os,h.tape,h.output,h.size,fun k hk=>h.block k (by omega) (fun e=>by have:=hr k e.symm;omega)⟩
theorem LJ (w:World) (row:Option Nat):w.grownBy w row:=⟨rfl,rfl,rfl,Nat.le_refl _,fun _ _ _=>rfl⟩
theorem own_below {w w':World} {base n:Nat} {e:TypeId} {v:Value} {xs:List Value} (h:w.ownsRow base e 1 v n xs) (hb:Below w.heap.size w w'):w'.ownsRow base e 1 v n xs:=
 h.kept (BS hb none) (by cases v.ownBlock<;>simp)
theorem DK {w:World} {base n:Nat} {e:TypeId} {v:Value} {xs:List Value} (h:w.ownsRow base e 1 v n xs) (o:Obj):(w.alloc o).ownsRow base e 1 v n xs:=h.alloc o
theorem Hy {w:World} {base n:Nat} {e:TypeId} {v:Value} {xs:List Value} (h:w.ownsRow base e 1 v n xs) {p:Addr} (hp:v.ownBlock≠some p.block) (u:Value):(w.setCell p u).ownsRow base e 1 v n xs:=by
 refine h.kept (row:=some p.block) ⟨rfl,rfl,rfl,by simp [World.setCell],fun k hk hne=>Below.heap_setCell w p u k (fun e=>hne (by rw [e]))⟩ (.inr hp)
theorem BN {a w:World} {B g:Nat} (h:Below B a w) (hg:B<=g) (p q u:Value):Below B a (((w.setCell ⟨g,0,none⟩ p).setCell ⟨g,1,none⟩ q).setCell ⟨g,2,none⟩ u):=
 ((h.setCell hg _).setCell hg _).setCell hg _
def Box (w:World) (g:Nat) (t:TypeId) (cs:Array Value):Prop:=w.heap[g]? =some (.cells cs t (0,0))
section
variable {w w':World} {g:Nat} {t:TypeId} {cs:Array Value}
theorem Box.lt (h:Box w g t cs):g<w.heap.size:=(Array.getElem?_eq_some_iff.1 h).1
theorem Box.cell (h:Box w g t cs) (i:Nat):w.cell? ⟨g,i,none⟩=cs[i]? :=cell_of_row w g i cs t (0,0) h
theorem Box.frozen (h:Box w g t cs) (i:Nat):w.frozen? ⟨g,i,none⟩=false:=by
 unfold Box at h
 simp [World.frozen?,h]
theorem Box.new (w:World) (t:TypeId) (cs:Array Value):Box (w.alloc (.cells cs t)) w.heap.size t cs:=heap_alloc_new w _
theorem Box.drewN (h:Box w g t cs) (n:Nat):Box (w.drewN n) g t cs:=h
theorem Box.alloc (h:Box w g t cs) (o:Obj):Box (w.alloc o) g t cs:=(Below.heap_alloc w o g h.lt).trans h
theorem Box.far (h:Box w g t cs) {p:Addr} (hp:g≠p.block) (u:Value):Box (w.setCell p u) g t cs:=(Below.heap_setCell w p u g hp).trans h
theorem Box.below {B:Nat} (h:Box w g t cs) (hb:Below B w w') (hg:g<B):Box w' g t cs:=(hb.block g hg).trans h
theorem Box.grown {row:Option Nat} (h:Box w g t cs) (hb:w.grownBy w' row) (hg:some g≠row):Box w' g t cs:=(hb.block g h.lt hg).trans h
theorem Box.set (h:Box w g t cs) (i:Nat) (u:Value):Box (w.setCell ⟨g,i,none⟩ u) g t (cs.setIfInBounds i u):=by
 unfold Box at h⊢
 simp [World.setCell,Array.getElem?_modify,h]
theorem Box.three {a b c:Value} (h:Box w g t #[a,b,c]):w.cell? ⟨g,0,none⟩=some a/\w.cell? ⟨g,1,none⟩=some b/\w.cell? ⟨g,2,none⟩=some c/\
  w.frozen? ⟨g,0,none⟩=false/\w.frozen? ⟨g,1,none⟩=false/\w.frozen? ⟨g,2,none⟩=false:=
 ⟨h.cell 0,h.cell 1,h.cell 2,h.frozen 0,h.frozen 1,h.frozen 2⟩
theorem Box.Cu {a b c:Value} (h:Box w g t #[a,b,c]) (p q u:Value):Box (((w.setCell ⟨g,0,none⟩ p).setCell ⟨g,1,none⟩ q).setCell ⟨g,2,none⟩ u) g t #[p,q,u] :=by
 have:=((h.set 0 p).set 1 q).set 2 u
 simpa using this
theorem Box.E9 (h:Box w g t cs) {g':Nat} (hne:g≠g') (p q u:Value):Box (((w.setCell ⟨g',0,none⟩ p).setCell ⟨g',1,none⟩ q).setCell ⟨g',2,none⟩ u) g t cs:=
 Box.far (Box.far (Box.far h (p:=⟨g',0,none⟩) hne _) (p:=⟨g',1,none⟩) hne _) (p:=⟨g',2,none⟩) hne _
theorem Box.Xv {base n:Nat} {e:TypeId} {v:Value} {xs:List Value} (h:Box w g t cs) (ho:w.ownsRow base e 1 v n xs) (hne:e≠t):some g≠v.ownBlock:=by
 rcases ho.2 with ⟨rfl,_⟩ | ⟨g',cap,cur,rfl,_,hh,_⟩
 ·simp [Value.ownBlock]
 ·intro he
  have:g=g':=by simpa [Value.ownBlock] using he
  subst this
  unfold Box at h
  rw [h] at hh
  injection hh with hh
  injection hh with _ ht
  exact hne ht.symm
end
theorem BM {P:Program} {w:World} {ops:Array Oper} {rest:List Oper} {o:Oper} {a:Act} {Q:Exit->Act->World->Prop} (hgd:o.guard=none) (s x:Operand) (t:TypeId)
  (ho:o.op=.call {callee:=.builtin .append,args:= #[s,x],argTypes:= #[t,t]})
  (base:Nat) (e:TypeId) (i:TypeInfo) (z:Value) (bytes:Nat) (ht:P.underlying t=some (.slice e)) (hi:P.info? e=some i) (hz:i.zero=some z)
  (hsize:i.size=1) (hby:i.bytes=bytes) (hzs:z.cells.size=1)
  (v:Value) (n:Nat) (xs:List Value) (hs:a.eval s=v) (hown:w.ownsRow base e 1 v n xs) (u:Value) (te:TypeId)
  (g:Nat) (hx:a.eval x=.slice (some ⟨g,0,none⟩) 1 1) (hgw:g=w.heap.size) (h1:u.oneCell'=true) (hb8:bytes<=64) (hn:n<=1099511627776) (hbase:base<=w.heap.size)
  (h: ∀v' w',w'.ownsRow base e 1 v' (n+1) (xs++ [u])->w.grownBy w' v.ownBlock->Moved w v v'->wpList P ops Q rest (a.put o.dst v') w'):
  wpList P ops Q (o::rest) a (w.alloc (.cells #[u] te)):=by
 subst hgw
 refine wpList_append_own_at (P:=P) (w.alloc (.cells #[u] te)) hgd s x t ho base e i z 1 bytes ht hi hz hsize hby hzs (by omega) v n xs hs (hown.alloc _) ⟨w.heap.size,0,none⟩ 1 1 [u] hx rfl (cell_one_new _ _ _)
  (fun y hy=>by simp at hy;subst hy;exact h1) (by simp only [maxLen];omega) ?_ (by simp;omega) ?_
 ·have:(n+1)*bytes<=1099511627777*64:=Nat.mul_le_mul (by omega) hb8
  omega
 ·intro v' w' hown' hg _ hat
  refine h v' w' hown' ⟨hg.os,hg.tape,hg.output,Nat.le_trans (by simp) hg.size,fun k hk hne=>(hg.block k (by simp;omega) hne).trans (Below.heap_alloc w _ k hk)⟩ ?_
  rcases hat with hat | hat
  ·exact .inl hat
  ·exact .inr ⟨_,hat,by simp⟩
theorem Pf {P:Program} {w:World} {ops:Array Oper} {rest:List Oper} {o:Oper} {a:Act} {Q:Exit->Act->World->Prop} (hgd:o.guard=none) (s x:Operand) (t:TypeId)
  (ho:o.op=.call {callee:=.builtin .append,args:= #[s,x],argTypes:= #[t,t]})
  (base:Nat) (e:TypeId) (i:TypeInfo) (z:Value) (bytes:Nat) (ht:P.underlying t=some (.slice e)) (hi:P.info? e=some i) (hz:i.zero=some z)
  (hsize:i.size=1) (hby:i.bytes=bytes) (hzs:z.cells.size=1)
  (v:Value) (n:Nat) (xs:List Value) (hs:a.eval s=v) (hown:w.ownsRow base e 1 v n xs) (cs:Array Value) (te:TypeId)
  (g m:Nat) (hx:a.eval x=.slice (some ⟨g,0,none⟩) m m) (hm:cs.size=m) (hgw:g=w.heap.size) (h1: ∀u∈cs.toList,u.oneCell'=true) (hb8:bytes<=64) (hn:n+m<=1099511627776) (hbase:base<=w.heap.size)
  (h: ∀v' w',w'.ownsRow base e 1 v' (n+m) (xs++cs.toList)->w.grownBy w' v.ownBlock->Moved w v v'->wpList P ops Q rest (a.put o.dst v') w'):
  wpList P ops Q (o::rest) a (w.alloc (.cells cs te)):=by
 subst hgw
 refine wpList_append_own_at (P:=P) (w.alloc (.cells cs te)) hgd s x t ho base e i z 1 bytes ht hi hz hsize hby hzs (by omega) v n xs hs (hown.alloc _) ⟨w.heap.size,0,none⟩ m m cs.toList hx (by simpa using hm) (fun j u hu=>?_)
  h1 (by simp only [maxLen];omega) ?_ (by simp;omega) ?_
 ·rw [Addr.add_lit,Nat.zero_add,(Box.new w te cs).cell j]
  simpa using hu
 ·have:(n+m)*bytes<=1099511627776*64:=Nat.mul_le_mul hn hb8
  omega
 ·intro v' w' hown' hg _ hat
  refine h v' w' hown' ⟨hg.os,hg.tape,hg.output,Nat.le_trans (by simp) hg.size,fun k hk hne=>(hg.block k (by simp;omega) hne).trans (Below.heap_alloc w _ k hk)⟩ ?_
  rcases hat with hat | hat
  ·exact .inl hat
  ·exact .inr ⟨_,hat,by simp⟩
theorem bO {P:Program} {w:World} {o:Oper} {a:Act} {K:Act->World->Prop} {Q:Exit->Act->World->Prop} (s x:Operand) (t:TypeId)
  (ho:o.op=.call {callee:=.builtin .append,args:= #[s,x],argTypes:= #[t,t]})
  (base:Nat) (e:TypeId) (i:TypeInfo) (z:Value) (bytes:Nat) (ht:P.underlying t=some (.slice e)) (hi:P.info? e=some i) (hz:i.zero=some z)
  (hsize:i.size=1) (hby:i.bytes=bytes) (hzs:z.cells.size=1)
  (v:Value) (n:Nat) (xs:List Value) (hs:a.eval s=v) (hown:w.ownsRow base e 1 v n xs)
  (B:Nat) (A:Option Addr) (m c:Nat) (ys:List Value) (hx:a.eval x=.slice A m c) (hy:Seen w B A m ys) (h1: ∀u∈ys,u.oneCell'=true) (hb8:bytes<=64) (hn:n+m<=1099511627776) (hbase:base<=w.heap.size)
  (h: ∀v' w',w'.ownsRow base e 1 v' (n+m) (xs++ys)->w.grownBy w' v.ownBlock->Moved w v v'->K (a.put o.dst v') w'):
  o.wp P a w K Q:=by
 rcases A with _ | ad
 ·have hn0:ys= [] :=by
   rcases ys with _ | ⟨y,ys⟩
   ·rfl
   ·obtain⟨ad,h0,_⟩:=hy.2 0 y rfl
    cases h0
  subst hn0
  have hm:m=0:=by have:=hy.1;simpa using this.symm
  subst hm
  have hrun:(Builtin.append_ #[t,t] o.type #[v,.slice none 0 c]).run P w=.ok v w:=by
   rcases hown.2 with ⟨rfl,rfl⟩ | ⟨g,cap,cur,rfl,_,_,hnc,_⟩
   ·simp [Builtin.append_,run_underlying ht,sizeOf,typeInfo,hi,Builtin.lenOf,Builtin.firstCells]
   ·simp [Builtin.append_,run_underlying ht,sizeOf,typeInfo,hi,Builtin.lenOf,Builtin.firstCells,hnc,storeCells]
  unfold Oper.wp
  simp [execOp,ho,resolve,invoke,builtin,hs,hx,hrun,Result.andThen]
  exact h v w (by simpa using hown) (LJ _ _) (.inl rfl)
 ·obtain⟨v',w',hr,h2,h3,_,h5⟩:=run_append_own_at (P:=P) w base t o.type e i z 1 bytes ht hi hz hsize hby hzs (by omega) v n xs hown ad m c ys (by simpa using hy.1) (fun j u hu=>by
   obtain⟨ad',h1,_,h3⟩:=hy.2 j u hu
   injection h1 with h1
   subst h1
   exact h3) h1 (by simp only [maxLen];omega) (by have:(n+m)*bytes<=1099511627776*64:=Nat.mul_le_mul hn hb8;omega) hbase
  unfold Oper.wp execOp
  simp only [ho,resolve,invoke,builtin,Sem.run_bind,Sem.run_pure,Result.andThen_ok,List.map_toArray,List.map_cons,List.map_nil,hs,hx,hr]
  refine h v' w' h2 h3 ?_
  rcases h5 with hat | hat
  ·exact .inl hat
  ·exact .inr ⟨_,hat,Nat.le_refl _⟩
theorem GD {P:Program} {w:World} {ops:Array Oper} {rest:List Oper} {o:Oper} {a:Act} {Q:Exit->Act->World->Prop} (hgd:o.guard=none) (s x:Operand) (t:TypeId)
  (ho:o.op=.call {callee:=.builtin .append,args:= #[s,x],argTypes:= #[t,t]})
  (base:Nat) (e:TypeId) (i:TypeInfo) (z:Value) (bytes:Nat) (ht:P.underlying t=some (.slice e)) (hi:P.info? e=some i) (hz:i.zero=some z)
  (hsize:i.size=1) (hby:i.bytes=bytes) (hzs:z.cells.size=1)
  (v:Value) (n:Nat) (xs:List Value) (hs:a.eval s=v) (hown:w.ownsRow base e 1 v n xs)
  (B:Nat) (A:Option Addr) (m c:Nat) (ys:List Value) (hx:a.eval x=.slice A m c) (hy:Seen w B A m ys) (h1: ∀u∈ys,u.oneCell'=true) (hb8:bytes<=64) (hn:n+m<=1099511627776) (hbase:base<=w.heap.size)
  (h: ∀v' w',w'.ownsRow base e 1 v' (n+m) (xs++ys)->w.grownBy w' v.ownBlock->Moved w v v'->wpList P ops Q rest (a.put o.dst v') w'):
  wpList P ops Q (o::rest) a w:=
 wpList_plain hgd fun _ hK=>bO s x t ho base e i z bytes ht hi hz hsize hby hzs v n xs hs hown B A m c ys hx hy h1 hb8 hn hbase fun v' w' h2 h3 h4=>hK _ _ (h v' w' h2 h3 h4)
theorem Seen.RG {w:World} {g n B:Nat} {t:TypeId} {cs:Array Value} {xs:List Value} (h:Box w g t cs) (hx:cs.toList=xs) (hn:xs.length=n) (hB:g<B):Seen w B (some ⟨g,0,none⟩) n xs:=by
 subst hx
 refine⟨hn,fun j u hu=>⟨_,rfl,hB,?_⟩⟩
 rw [Addr.add_lit,Nat.zero_add,h.cell j]
 simpa using hu
theorem Box.fresh {w:World} {t:TypeId} {cs:Array Value} {g:Nat} (hg:g=w.heap.size):Box (w.alloc (.cells cs t)) g t cs:=by
 subst hg
 exact Box.new w t cs
theorem Box.drew {w:World} {g:Nat} {t:TypeId} {cs:Array Value} (h:Box w g t cs):Box w.drew g t cs:=h
theorem JU {w:World} {base g:Nat} (e:TypeId) (hg:g=w.heap.size) (hb:base<=w.heap.size):(w.alloc (.cells #[] e)).ownsRow base e 1 (.slice (some ⟨g,0,none⟩) 0 0) 0 [] :=by
 subst hg
 exact World.ownsRow_made w #[] 0 hb (Nat.zero_le _) rfl
theorem Xw (k:IntKind) (zs:List Int): ∀u∈zs.map (Value.int k),u.oneCell'=true:=by
 intro u hu
 obtain⟨_,_,rfl⟩:=List.mem_map.1 hu
 rfl
theorem hide {p:Prop} (h:p):Hid p:=h
end Go.Proofs.YtoaabebgmdbjeaaGreatDoor
namespace Go.Proofs.YtoaabebgmdbjeaaGreatDoor
theorem JV (x i:Nat):x&&& (2 ^ i-1)=x%2 ^ i:=Nat.and_two_pow_sub_one_eq_mod x i
theorem Hz (x:Int) (i n:Nat) (h:i<=n):(((x%((2 ^ n:Nat):Int)).toNat%2 ^ i:Nat):Int)=x%((2 ^ i:Nat):Int):=by
 have hp:0<2 ^ n:=Nat.two_pow_pos n
 have h0:0<=x%((2 ^ n:Nat):Int):=Int.emod_nonneg _ (by omega)
 rw [Int.natCast_emod,Int.toNat_of_nonneg h0]
 exact Int.emod_emod_of_dvd x (Int.natCast_dvd_natCast.2 (Nat.pow_dvd_pow 2 h))
theorem LM (i:Nat) (hi:i<=62) (x:Int):bits .and .i64 x ((2 ^ i-1:Nat):Int)=x%((2 ^ i:Nat):Int):=by
 have hp:2 ^ i<=2 ^ 62:=Nat.pow_le_pow_right (by omega) hi
 have hq:0<2 ^ i:=Nat.two_pow_pos i
 show IntKind.i64.wrap ((BitVec.ofInt 64 x&&& BitVec.ofInt 64 ((2 ^ i-1:Nat):Int)).toNat:Int)=_
 rw [BitVec.toNat_and,BitVec.toNat_ofInt,BitVec.ofInt_natCast,BitVec.toNat_ofNat,Nat.mod_eq_of_lt (a:=2 ^ i-1) (by omega),JV,Hz x i 64 (by omega),IntKind.wrap_i64]
 have h1:=Int.emod_nonneg x (b:=((2 ^ i:Nat):Int)) (by omega)
 have h2:=Int.emod_lt_of_pos x (b:=((2 ^ i:Nat):Int)) (by omega)
 omega
theorem Xx (i:Nat) (hi:i<=30) (x:Int):bits .and .i32 x ((2 ^ i-1:Nat):Int)=x%((2 ^ i:Nat):Int):=by
 have hp:2 ^ i<=2 ^ 30:=Nat.pow_le_pow_right (by omega) hi
 have hq:0<2 ^ i:=Nat.two_pow_pos i
 show IntKind.i32.wrap ((BitVec.ofInt 32 x&&& BitVec.ofInt 32 ((2 ^ i-1:Nat):Int)).toNat:Int)=_
 rw [BitVec.toNat_and,BitVec.toNat_ofInt,BitVec.ofInt_natCast,BitVec.toNat_ofNat,Nat.mod_eq_of_lt (a:=2 ^ i-1) (by omega),JV,Hz x i 32 (by omega),IntKind.wrap_i32]
 have h1:=Int.emod_nonneg x (b:=((2 ^ i:Nat):Int)) (by omega)
 have h2:=Int.emod_lt_of_pos x (b:=((2 ^ i:Nat):Int)) (by omega)
 omega
theorem Ez (i:Nat) (a b:Int) (ha:0<=a) (hm:a%((2 ^ i:Nat):Int)=0) (hb:0<=b) (hb1:b<((2 ^ i:Nat):Int)) (h:a+b<9223372036854775808):bits .or .i64 a b=a+b:=by
 obtain⟨x,rfl⟩:=Int.eq_ofNat_of_zero_le ha
 obtain⟨y,rfl⟩:=Int.eq_ofNat_of_zero_le hb
 show IntKind.i64.wrap ((BitVec.ofInt 64 (x:Int)||| BitVec.ofInt 64 (y:Int)).toNat:Int)=_
 rw [BitVec.toNat_or,BitVec.ofInt_natCast,BitVec.ofInt_natCast,BitVec.toNat_ofNat,BitVec.toNat_ofNat,Nat.mod_eq_of_lt (a:=x) (by omega),Nat.mod_eq_of_lt (a:=y) (by omega),
  nat_join i x y (by rw [<- Int.natCast_emod] at hm;exact_mod_cast hm) (by omega),IntKind.wrap_i64]
 omega
theorem bP (i:Nat) (a b:Int) (ha:0<=a) (hm:a%((2 ^ i:Nat):Int)=0) (hb:0<=b) (hb1:b<((2 ^ i:Nat):Int)) (h:a+b<256):bits .or .u8 a b=a+b:=by
 obtain⟨x,rfl⟩:=Int.eq_ofNat_of_zero_le ha
 obtain⟨y,rfl⟩:=Int.eq_ofNat_of_zero_le hb
 rw [u8_or_nat x y (by omega) (by omega),nat_join i x y (by rw [<- Int.natCast_emod] at hm;exact_mod_cast hm) (by omega)]
 omega
theorem RH (x y:Nat) (hx:x<9223372036854775808) (hy:y<9223372036854775808):bits .or .i64 (x:Int) (y:Int)=((x||| y:Nat):Int):=by
 show IntKind.i64.wrap ((BitVec.ofInt 64 (x:Int)||| BitVec.ofInt 64 (y:Int)).toNat:Int)=_
 rw [BitVec.toNat_or,BitVec.ofInt_natCast,BitVec.ofInt_natCast,BitVec.toNat_ofNat,BitVec.toNat_ofNat,Nat.mod_eq_of_lt (a:=x) (by omega),Nat.mod_eq_of_lt (a:=y) (by omega),IntKind.wrap_i64]
 have:x||| y<2 ^ 63:=Nat.or_lt_two_pow (by omega) (by omega)
 omega
end Go.Proofs.YtoaabebgmdbjeaaGreatDoor
namespace Go.Proofs.YtoaabebgmdbjeaaGreatDoor
theorem LP {a b:Bool} (h:a=b):Ending.returned (.bool a)=.returned (.bool b):=by rw [h]
theorem CV {k:IntKind} {a b:Int} (h:a=b):Ending.returned (.int k a)=.returned (.int k b):=by rw [h]
end Go.Proofs.YtoaabebgmdbjeaaGreatDoor
namespace Go.Proofs.YtoaabebgmdbjeaaGreatDoor
open Go.RowKit
structure Arg (k:IntKind) (w:World) (A:Option Addr) (n c:Nat) (l:List Int):Prop where
 len:l.length=n
 seen:Seen w w.heap.size A n (l.map (Value.int k))
 wf: ∀x∈l,(Lit.int k x).wf=true
 le:n<=c
 cap:c<=maxLen
 nil:A=none->n=0/\c=0
theorem Arg.none (k:IntKind) (w:World):Arg k w .none 0 0 [] :=⟨rfl,Seen.Xu _ _ _,by simp,Nat.le_refl _,Nat.zero_le _,fun _=>⟨rfl,rfl⟩⟩
theorem Arg.some_ {k:IntKind} {w:World} {x:Addr} {n c:Nat} {zs:List Int} (hl:n<=c) (hm:c<=maxLen) (hz:zs.length=c) (hcell: ∀i,i<zs.length->w.cell? (x.add i)=some (.int k (zs.getD i 0))) (hw: ∀m∈zs,(Lit.int k m).wf=true):
  Arg k w (some x) n c (zs.take n):=by
 refine⟨by rw [List.length_take];omega,⟨by rw [List.length_map,List.length_take];omega,fun j u hu=>?_⟩,fun m hm'=>hw m (List.mem_of_mem_take hm'),hl,hm,fun h=>by cases h⟩
 rw [List.getElem?_map,List.getElem?_take] at hu
 split at hu
 ·obtain⟨z,hz',rfl⟩:=Option.map_eq_some_iff.1 hu
  have hj:=(List.getElem?_eq_some_iff.1 hz').1
  have hc:=hcell j hj
  refine⟨x,rfl,?_,?_⟩
  ·have:=World.block_lt_of_cell? w (x.add j) hc
   rwa [addBlock] at this
  ·rw [hc,List.getD_eq_getElem?_getD,hz']
   rfl
 ·cases hu
end Go.Proofs.YtoaabebgmdbjeaaGreatDoor
namespace Go.Proofs.YtoaabebgmdbjeaaGreatDoor
open Go.RowKit
theorem H6:(Tryz.prog.info? 21).map (fun i=>(i.zero,i.size,i.bytes))=some (some (.int .i32 0),1,4):=by kernel_rfl
theorem K5:(Tryz.prog.info? 5).map (fun i=>(i.zero,i.size,i.bytes))=some (some (.int .u8 0),1,1):=by kernel_rfl
def RI (base:Nat) (t:TypeId) (w:World) (v:Value) (n:Nat) (xs ys:List Value) (r:Value->Value) (e:Ending) (w':World):Prop:=
 ∃v',e=.returned (r v')/\w'.ownsRow base t 1 v' (n+ys.length) (xs++ys)/\w.grownBy w' v.ownBlock/\Moved w v v'
def DV (l:List Int):List Value:=l.map (Value.int .i32)
def u8s (l:List Int):List Value:=l.map (Value.int .u8)
theorem UM (l:List Int): ∀u∈u8s l,u.oneCell'=true:=Xw _ _
theorem Xy (l m:List Int):DV (l++m)=DV l++DV m:=by simp [DV]
theorem bQ (l m:List Int):u8s (l++m)=u8s l++u8s m:=by simp [u8s]
theorem Seen.new (w:World) (t:TypeId) (cs:Array Value) (n:Nat) (hn:cs.size=n):Seen (w.alloc (.cells cs t)) (w.heap.size+1) (some ⟨w.heap.size,0,none⟩) n cs.toList:=by
 refine⟨by simpa using hn,fun j u hu=>⟨_,rfl,by simp,?_⟩⟩
 rw [Addr.add_lit,Nat.zero_add,(Box.new w t cs).cell j]
 simpa using hu
theorem Seen.fresh {w:World} {t:TypeId} {cs:Array Value} {n g B:Nat} {xs:List Value} (hg:g=w.heap.size) (hB:B=w.heap.size+1) (hn:cs.size=n) (hx:cs.toList=xs):Seen (w.alloc (.cells cs t)) B (some ⟨g,0,none⟩) n xs:=by
 subst hg hB hx
 exact Seen.new w t cs n hn
end Go.Proofs.YtoaabebgmdbjeaaGreatDoor
namespace Go.Proofs.YtoaabebgmdbjeaaGreatDoor
end Go.Proofs.YtoaabebgmdbjeaaGreatDoor
namespace Go.Proofs.YtoaabebgmdbjeaaGreatDoor
open Go.RowKit
theorem OQ (n m:Int) (hm:0<m):n%m=if n.tmod m<0 then n.tmod m+m else n.tmod m:=by
 have h1:=Int.mul_tdiv_add_tmod n m
 have h2:=Int.tmod_lt_of_pos n hm
 have h3: -m<n.tmod m:=by
  have:=Int.tmod_lt_of_pos (-n) hm
  rw [Int.neg_tmod] at this
  omega
 split
 ·have e:n=n.tmod m+m+m*(n.tdiv m-1):=by rw [Int.mul_sub];omega
  have:n%m=(n.tmod m+m+m*(n.tdiv m-1))%m:=by rw [<- e]
  rw [this,Int.add_mul_emod_self_left]
  exact Int.emod_eq_of_lt (by omega) (by omega)
 ·have e:n=n.tmod m+m*n.tdiv m:=by omega
  have:n%m=(n.tmod m+m*n.tdiv m)%m:=by rw [<- e]
  rw [this,Int.add_mul_emod_self_left]
  exact Int.emod_eq_of_lt (by omega) (by omega)
theorem UN {a b:Int} (h:a=b):Ending.returned (.int .i64 a)=.returned (.int .i64 b):=by rw [h]
theorem RL (n lo hi:Int) (w:World) (hn0: -9223372036854775808<=n) (hn1:n<=9223372036854775807) (hlo: -1099511627776<=lo) (hle:lo<=hi) (hhi:hi<=1099511627776):
  Calls Tryz.prog 20 #[.int .i64 n,.int .i64 lo,.int .i64 hi] w fun e w'=>e=.returned (.int .i64 (lo+n%(hi-lo+1)))/\w=w':=by
 have hm:0<hi-lo+1:=by omega
 have he:=OQ n (hi-lo+1) hm
 have h2:=Int.tmod_lt_of_pos n hm
 have h3: -(hi-lo+1)<n.tmod (hi-lo+1):=by
  have:=Int.tmod_lt_of_pos (-n) hm
  rw [Int.neg_tmod] at this
  omega
 have h4:=Int.emod_lt_of_pos n hm
 have h5:=Int.emod_nonneg n (b:=hi-lo+1) (by omega)
 have h6:0<=n->n.tmod (hi-lo+1)=n%(hi-lo+1):=fun h=>Int.tmod_eq_emod_of_nonneg h
 have h7:(hi-lo+1==0)=false:=by simp;omega
 by_cases hn:0<=n
 ·have h8:=h6 hn
  generalize hp:n%(hi-lo+1)=r at he h4 h5 h6 h8⊢
  clear he h6 h8 h2 h3
  go_enter Tryz.func20,Tryz.ntmps20
  go_wp2
  go_ret
  exact⟨UN (by omega),rfl⟩
 ·generalize n%(hi-lo+1)=r at he h4 h5 h6⊢
  generalize ht:n.tmod (hi-lo+1)=t at he h2 h3 h6
  clear h6
  have HE:=hide he
  clear he
  by_cases h0:t<0
  all_goals
   go_enter Tryz.func20,Tryz.ntmps20
   go_wp2
   go_ret
   have he:=HE.out
   refine⟨UN ?_,rfl⟩
   first | rw [if_pos (by omega)] at he | rw [if_neg (by omega)] at he
   simp
   omega
theorem J6 (n lo hi v:Int) (hv:lo+n%(hi-lo+1)=v) (w:World) (hn0: -9223372036854775808<=n) (hn1:n<=9223372036854775807) (hlo: -1099511627776<=lo) (hle:lo<=hi) (hhi:hi<=1099511627776):
  Calls Tryz.prog 20 #[.int .i64 n,.int .i64 lo,.int .i64 hi] w fun e w'=>e=.returned (.int .i64 v)/\w=w':=by
 subst hv
 exact RL n lo hi w hn0 hn1 hlo hle hhi
end Go.Proofs.YtoaabebgmdbjeaaGreatDoor
namespace Go.Proofs.YtoaabebgmdbjeaaGreatDoor
open Go.RowKit
def BQ (w0 w:World):Prop:=Below w0.heap.size w0 w
theorem BQ.cell {w0 w:World} (h:BQ w0 w) {p:Addr} (hp:p.block<w0.heap.size):w.cell? p=w0.cell? p:=Below.cell h hp
theorem BQ.size {w0 w:World} (h:BQ w0 w):w0.heap.size<=w.heap.size:=Below.size h
theorem BQ.alloc {w0 w:World} (h:BQ w0 w) (o:Obj):BQ w0 (w.alloc o):=Below.alloc h h.size o
theorem BQ.set {w0 w:World} (h:BQ w0 w) {p:Addr} (hp:w0.heap.size<=p.block) (u:Value):BQ w0 (w.setCell p u):=Below.setCell h hp u
theorem BQ.box {w0 w:World} {g:Nat} {t:TypeId} {cs:Array Value} (h:BQ w0 w) (hb:Box w0 g t cs):Box w g t cs:=Box.below hb h hb.lt
theorem BQ.refl (w:World):BQ w w:=Below.refl _ _
theorem BQ.drew {w0 w:World} (h:BQ w0 w):BQ w0 w.drew:=Below.drew h
theorem BQ.call {w0 w w':World} (h:BQ w0 w) (bb:Below w.heap.size w w'):BQ w0 w':=Below.trans h (bb.mono h.size)
end Go.Proofs.YtoaabebgmdbjeaaGreatDoor
namespace Go.Proofs.YtoaabebgmdbjeaaGreatDoor
open Go
mutual
def flat {H:Type}:DataW H->Option (List Value)
 | .lit (.int k n)=>some [.int k n]
 | .lit (.bool b)=>some [.bool b]
 | .lit (.string s)=>some [.string ⟨s.toArray⟩]
 | .agg ds=>flatAll ds
 | _=>none
def flatAll {H:Type}:List (DataW H)->Option (List Value)
 | [] =>some []
 | d::ds=>(flat d).bind fun a=>(flatAll ds).map fun b=>a++b
end
def FV (P:Program) (tl:TypeId->Bool):Nat->List Field->Nat->Bool
 | o, [],n=>decide (o=n)
 | o,f::r,n=>decide (f.offset=o)&&tl f.type&&FV P tl (o+P.cellsOf f.type) r n
def tiled (P:Program):Nat->TypeId->Bool
 | 0,_=>false
 | k+1,t=>
  match P.underlying t with
  | some (.int _)=>true
  | some .bool=>true
  | some .string=>true
  | some (.struct fs)=>FV P (tiled P k) 0 fs.toList (P.cellsOf t)
  | some (.array n e)=>decide (P.cellsOf t=n*P.cellsOf e)&&tiled P k e
  | _=>false
section
variable {H:Type} {enc:TypeId × Value->H} {P:Program} {w:World} {base:Nat} {spare:Nat->Bool} {held:Bool}
theorem Kc {tl:TypeId->Bool} {n:Nat} {cs:List Value} (hl:cs.length=n) (g:TypeId->List Value->Option (DataW H × List MemPlace))
  (ih: ∀t c d,tl t=true->g t c=some d->flat d.1=some c):
  ∀(l:List Field) (o:Nat) (xs:List (DataW H × List MemPlace)),FV P tl o l n=true->xs.length=l.length->
   (∀(i:Nat) (f:Field),l[i]? =some f->g f.type ((cs.drop f.offset).take (P.cellsOf f.type))=xs[i]?)->flatAll (xs.map (·.1))=some (cs.drop o)
 | [],o,xs,h,hx,_=>by
  simp [FV] at h
  have:xs= [] :=List.eq_nil_of_length_eq_zero (by simpa using hx)
  subst this
  rw [List.drop_eq_nil_of_le (by omega)]
  rfl
 | f::r,o, [],h,hx,_=>by simp at hx
 | f::r,o,x::xs,h,hx,hf=>by
  simp only [FV,Bool.and_eq_true,decide_eq_true_eq] at h
  obtain⟨⟨h1,h2⟩,h3⟩:=h
  have e0:=hf 0 f rfl
  simp only [List.getElem?_cons_zero] at e0
  have e1:=ih _ _ _ h2 e0
  have e2:=Kc hl g ih r _ xs h3 (by simpa using hx) (fun i f' hi=>by simpa using hf (i+1) f' (by simpa using hi))
  simp only [List.map_cons,flatAll,e1,e2,Option.bind_some,Option.map_some,Option.some.injEq]
  rw [h1, <- List.drop_drop]
  exact List.take_append_drop _ _
theorem NP {c m:Nat} {cs:List Value} (g:List Value->Option (DataW H × List MemPlace)) (ih: ∀l d,g l=some d->flat d.1=some l):
  ∀(k j:Nat) (xs:List (DataW H × List MemPlace)),j+k=m->cs.length=m*c->xs.length=k->
   (∀i,i<k->g ((cs.drop ((j+i)*c)).take c)=xs[i]?)->flatAll (xs.map (·.1))=some (cs.drop (j*c))
 | 0,j,xs,hj,hl,hx,_=>by
  have:xs= [] :=List.eq_nil_of_length_eq_zero (by simpa using hx)
  subst this
  have:j=m:=by omega
  subst this
  rw [List.drop_eq_nil_of_le (by omega)]
  rfl
 | k+1,j, [],hj,hl,hx,_=>by simp at hx
 | k+1,j,x::xs,hj,hl,hx,hf=>by
  have e0:=hf 0 (by omega)
  simp only [List.getElem?_cons_zero,Nat.add_zero] at e0
  have e1:=ih _ _ e0
  have e2:=NP (c:=c) (m:=m) g ih k (j+1) xs (by omega) hl (by simpa using hx) (fun i hi=>by
   have:=hf (i+1) (by omega)
   rw [show j+(i+1)=j+1+i by omega] at this
   simpa using this)
  simp only [List.map_cons,flatAll,e1,e2,Option.bind_some,Option.map_some,Option.some.injEq]
  rw [Nat.add_mul,Nat.one_mul, <- List.drop_drop]
  exact List.take_append_drop _ _
theorem J7: ∀(k:Nat) (t:TypeId) (fuel:Nat) (cs:List Value) (x:DataW H × List MemPlace),tiled P k t=true->
  DataW.trod enc P w base spare held fuel t cs=some x->flat x.1=some cs
 | 0,t,fuel,cs,x,h,_=>by simp [tiled] at h
 | k+1,t,fuel,cs,x,h,hx=>by
  unfold tiled at h
  split at h
  ·rename_i ht
   obtain⟨n,rfl,rfl,_⟩:=DataW.trod_int ht hx
   rfl
  ·rename_i ht
   cases fuel with
   | zero=>simp [DataW.trod] at hx
   | succ n=>
    unfold DataW.trod at hx
    rw [ht] at hx
    split at hx<;>simp_all
    subst hx
    rfl
  ·rename_i ht
   obtain⟨s,rfl,rfl,_⟩:=DataW.trod_string ht hx
   simp [flat]
  ·rename_i fs ht
   obtain⟨xs,n,_,rfl,hl,hlen,hf⟩:=DataW.trod_struct ht hx
   have:=Kc (P:=P) (n:=P.cellsOf t) hl (fun t c=>DataW.trod enc P w base spare held n t c) (fun t c d h1 h2=>J7 k t n c d h1 h2) fs.toList 0 xs h (by simpa using hlen) (fun i f hi=>hf i f (by simpa using hi))
   simpa [flat] using this
  ·rename_i n e ht
   obtain⟨xs,m,_,rfl,hl,hlen,hf⟩:=DataW.trod_array ht hx
   simp only [Bool.and_eq_true,decide_eq_true_eq] at h
   have:=NP (c:=P.cellsOf e) (m:=n) (cs:=cs) (fun c=>DataW.trod enc P w base spare held m e c) (fun c d h2=>J7 k e m c d h.2 h2) n 0 xs (by omega) (by omega) hlen (fun i hi=>by simpa using hf i hi)
   simpa [flat] using this
  ·cases h
theorem U7 {name:String} {D:DataW Unit} {rest:List (String × DataW Unit)} {g:Nat} {t:TypeId} {vs:List Value} (k:Nat)
  (hg:P.globalNamed name=some g) (ht:(P.globals[g]?).map (·.type)=some t) (htl:tiled P k t=true) (hD:flat D=some vs) (hvs:0<vs.length)
  (h:laidMet P ((name,D)::rest) w): ∃t',w.heap[g]? =some (.cells vs.toArray t' (0,0)):=by
 obtain⟨ps,⟨g0,t0,cs0,f0,p0,q0,hg0,ht0,hv0,hd0,_,hps⟩,_,hall⟩:=h
 obtain rfl:=Option.some.inj (hg.symm.trans hg0)
 obtain rfl:=Option.some.inj (ht.symm.trans ht0)
 have e:=J7 k _ _ _ _ htl hd0
 rw [hD] at e
 have e:vs=cs0.toList:=Option.some.inj e
 subst e
 have hm:MemPlace.cell g 0∈ps:=by
  rw [hps]
  simp [MemPlace.row]
  exact .inl (by simpa using hvs)
 obtain⟨⟨c,t',hc⟩,_⟩:=hall g 0 hm
 refine⟨t',?_⟩
 have hv:=hv0
 simp [World.var?,hg,hc] at hv
 simp [hc,hv]
theorem U8 {x:String × DataW Unit} {rest:List (String × DataW Unit)} (h:laidMet P (x::rest) w):laidMet P rest w:=by
 obtain⟨n,D⟩:=x
 obtain⟨ps,⟨g0,t0,cs0,f0,p0,q0,hg0,ht0,hv0,hd0,hr,hps⟩,hn,hall⟩:=h
 refine⟨q0,hr,?_,fun b off hb=>hall b off (by rw [hps];exact List.mem_append_right _ hb)⟩
 rw [hps] at hn
 exact(List.nodup_append.1 hn).2.1
theorem Db {name:String} {D:DataW Unit} {g:Nat} {t:TypeId} {vs:List Value} (k:Nat)
  (hg:P.globalNamed name=some g) (ht:(P.globals[g]?).map (·.type)=some t) (htl:tiled P k t=true) (hD:flat D=some vs) (hvs:0<vs.length):
  ∀{l:List (String × DataW Unit)},laidMet P l w->(name,D)∈l-> ∃t',w.heap[g]? =some (.cells vs.toArray t' (0,0))
 | x::rest,h,hm=>by
  rcases List.mem_cons.1 hm with rfl | hm
  ·exact U7 k hg ht htl hD hvs h
  ·exact Db k hg ht htl hD hvs (U8 h) hm
end
end Go.Proofs.YtoaabebgmdbjeaaGreatDoor
namespace Go.Proofs.YtoaabebgmdbjeaaGreatDoor
open Go Go.Joins Go.ChangeShapes Go.WideShapes Go.RowKit Go.Deep
section
variable {H:Type} {enc:TypeId × Value->H} {P:Program} {w:World} {base:Nat} {spare:Nat->Bool} {held:Bool}
end
end Go.Proofs.YtoaabebgmdbjeaaGreatDoor
