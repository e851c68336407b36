/- Worlds that keep all that was there but some rows; rows of any cell size; append of one struct's cells. append(s, x) of one struct that lies in a block that is known, as one step of a region that draws its order. Names no function of a program. A region that draws its order, proved by what each operation leaves: each operation is walked once, whatever came up beside it. Names no function of a program. A predicate of the numbers below n, told one by one. A region that draws its order, makes memory, calls functions, and stores structs of any size into boxes of its own or old ones: of each operation its kind. Names no function of a program. A region that draws its order, whose last operations (the stores of an assignment) wait for all ahead of them: the head by what each operation leaves (Reg), the tail as a plain list, walked in the text's order. Names no function of a program. A box's whole struct, loaded or stored in one step, however many cells it has: the world behind a store is one of which its box, and what stayed, is told. Names no function of a program. -/
import Derived.Test.YtoaabebgmdbjeaaGreatDoorSb01
import Derived.Deep.MidRow
set_option maxRecDepth 100000
set_option maxHeartbeats 16000000
set_option linter.unusedVariables false
namespace Go.Proofs.YtoaabebgmdbjeaaGreatDoor
open Go.RowKit
structure Kept (L:List (Option Nat)) (w w':World):Prop where
 os:w'.os=w.os
 tape:w'.tape=w.tape
 output:w'.output=w.output
 size:w.heap.size<=w'.heap.size
 block: ∀k,k<w.heap.size->some k∉L->w'.heap[k]? =w.heap[k]?
def From (w:World) (L:List (Option Nat)) (o:Option Nat):Prop:= ∀h,o=some h->some h∈L\/w.heap.size<=h
theorem From.none (w:World) (L:List (Option Nat)):From w L none:=fun h e=>by cases e
theorem From.mem {w:World} {L:List (Option Nat)} {o:Option Nat} (h:o∈L):From w L o:=fun k e=>.inl (e▸h)
theorem From.mono {w:World} {L L':List (Option Nat)} {o:Option Nat} (h:From w L o) (hs: ∀x∈L,x∈L'):From w L' o:=fun k e=>(h k e).imp (hs _) id
theorem From.later {w w':World} {L:List (Option Nat)} {o:Option Nat} (h:From w' L o) (hs:w.heap.size<=w'.heap.size):From w L o:=fun k e=>(h k e).imp id (fun h=>by omega)
theorem From.trans {w w':World} {L L':List (Option Nat)} {o:Option Nat} (h:From w' L' o) (hL: ∀x∈L',From w L x) (hs:w.heap.size<=w'.heap.size):From w L o:=fun k e=>by
 rcases h k e with h | h
 ·exact hL _ h k rfl
 ·exact .inr (by omega)
theorem From.Gc {w w':World} {a b c:Option Nat} (h:From w' [b] c) (k:From w [a] b) (hs:w.heap.size<=w'.heap.size):From w [a] c:=
 h.trans (fun x hx=>by simp at hx;subst hx;exact k) hs
theorem From.moved {w:World} {v v':Value} (h:Moved w v v'):From w [v.ownBlock] v'.ownBlock:=fun k e=>by
 rcases h with h | ⟨g,h1,h2⟩
 ·left;simp [<- h,e]
 ·rw [h1] at e
  injection e with e
  exact .inr (by omega)
section
variable {L L':List (Option Nat)} {w w1 w':World}
theorem Kept.refl (L:List (Option Nat)) (w:World):Kept L w w:=⟨rfl,rfl,rfl,Nat.le_refl _,fun _ _ _=>rfl⟩
theorem Kept.trans (h:Kept L w w1) (k:Kept L' w1 w') (hL: ∀x∈L',From w L x):Kept L w w':=
 ⟨k.os.trans h.os,k.tape.trans h.tape,k.output.trans h.output,Nat.le_trans h.size k.size,fun i hi hn=>
  (k.block i (Nat.lt_of_lt_of_le hi h.size) (fun hm=>by
   rcases hL _ hm i rfl with h1 | h1
   ·exact hn h1
   ·omega)).trans (h.block i hi hn)⟩
theorem Kept.more (h:Kept L w w') (hs: ∀x∈L,x∈L'):Kept L' w w':=⟨h.os,h.tape,h.output,h.size,fun i hi hn=>h.block i hi (fun hm=>hn (hs _ hm))⟩
theorem Kept.drew (h:Kept L w w'):Kept L w w'.drew:=⟨h.os,h.tape,h.output,h.size,h.block⟩
theorem Kept.drewN (h:Kept L w w') (n:Nat):Kept L w (w'.drewN n):=⟨h.os,h.tape,h.output,h.size,h.block⟩
theorem Kept.alloc (h:Kept L w w') (o:Obj):Kept L w (w'.alloc o):=
 ⟨h.os,h.tape,h.output,Nat.le_trans h.size (by simp),fun i hi hn=>(Below.heap_alloc w' o i (Nat.lt_of_lt_of_le hi h.size)).trans (h.block i hi hn)⟩
theorem Kept.setCell (h:Kept L w w') {p:Addr} (hp:From w L (some p.block)) (u:Value):Kept L w (w'.setCell p u):=
 ⟨h.os,h.tape,h.output,by simpa [World.setCell] using h.size,fun i hi hn=>(Below.heap_setCell w' p u i (fun e=>by
  subst e
  rcases hp _ rfl with h1 | h1
  ·exact hn h1
  ·omega)).trans (h.block i hi hn)⟩
theorem Kept.grown (h:Kept L w w1) {row:Option Nat} (hg:w1.grownBy w' row) (hr:From w L row):Kept L w w':=
 h.trans (L':= [row]) ⟨hg.os,hg.tape,hg.output,hg.size,fun i hi hn=>hg.block i hi (by simpa using hn)⟩ (by simpa using hr)
theorem Kept.below (h:Kept L w w1) (hb:Below w1.heap.size w1 w'):Kept L w w':=
 h.trans (L':= []) ⟨hb.os,hb.tape,hb.output,hb.size,fun i hi _=>hb.block i hi⟩ (by simp)
theorem Kept.of_below (hb:Below w.heap.size w w'):Kept L w w':=(Kept.refl L w).below hb
theorem Kept.toBelow {B:Nat} (h:Kept L w w') (hB:B<=w.heap.size) (hL: ∀k,some k∈L->B<=k):Below B w w':=
 ⟨h.os,h.tape,h.output,h.size,fun k hk=>h.block k (by omega) (fun hm=>by have:=hL k hm;omega)⟩
theorem Kept.cell (h:Kept L w w') {p:Addr} (hp:p.block<w.heap.size) (hn:some p.block∉L):w'.cell? p=w.cell? p:=World.cell?_of_block (w:=w) (h.block p.block hp hn)
theorem Box.kept {g:Nat} {t:TypeId} {cs:Array Value} (h:Box w g t cs) (k:Kept L w w') (hn:some g∉L):Box w' g t cs:=(k.block g h.lt hn).trans h
theorem BH {base size n:Nat} {e:TypeId} {v:Value} {xs:List Value} (h:w.ownsRow base e size v n xs) (k:Kept L w w') (hn: ∀b,v.ownBlock=some b->some b∉L):w'.ownsRow base e size v n xs:=by
 refine⟨h.1,?_⟩
 rcases h.2 with h | ⟨g,cap,cur,rfl,hb,hh,r⟩
 ·exact .inl h
 ·exact .inr ⟨g,cap,cur,rfl,hb,(k.block g (Array.getElem?_eq_some_iff.1 hh).1 (hn g rfl)).trans hh,r⟩
end
section
variable {w:World} {base base' size size' n n':Nat} {e e' t:TypeId} {v v':Value} {xs xs':List Value} {g:Nat} {cs:Array Value}
theorem IG (h:w.ownsRow base e size v n xs) {b:Nat} (hb:v.ownBlock=some b): ∃cur,Box w b e cur:=by
 rcases h.2 with ⟨rfl,_⟩ | ⟨g,cap,cur,rfl,_,hh,_⟩
 ·simp [Value.ownBlock] at hb
 ·simp [Value.ownBlock] at hb
  subst hb
  exact⟨cur,hh⟩
theorem Gs {t':TypeId} {cs':Array Value} (h:Box w g t cs) (h':Box w g t' cs'):t=t':=by
 unfold Box at h h'
 rw [h] at h'
 injection h' with h'
 injection h' with _ ht
theorem Aa (h:w.ownsRow base e size v n xs) (b:Box w g t cs) (hne:e≠t):v.ownBlock≠some g:=fun hb=>by
 obtain⟨cur,hc⟩:=IG h hb
 exact hne (Gs hc b)
theorem Bv (h:w.ownsRow base e size v n xs) (h':w.ownsRow base' e' size' v' n' xs') (hne:e≠e') {b:Nat} (hb:v.ownBlock=some b):v'.ownBlock≠some b:=fun hb'=>by
 obtain⟨cur,hc⟩:=IG h hb
 obtain⟨cur',hc'⟩:=IG h' hb'
 exact hne (Gs hc hc')
theorem BF (h:w.ownsRow base e size v n xs) {p:Addr} (hp:v.ownBlock≠some p.block) (u:Value):(w.setCell p u).ownsRow base e size v n xs:=
 BH h ((Kept.refl [some p.block] w).setCell (From.mem (by simp)) u) (fun b hb hm=>hp (by
  simp only [List.mem_singleton,Option.some.injEq] at hm
  rw [<- hm]
  exact hb))
theorem D9 (h:w.ownsRow base e size v n xs) (o:Obj):(w.alloc o).ownsRow base e size v n xs:=h.alloc o
theorem own_base' (h:w.ownsRow base e size v n xs) (hb:base'<=base):w.ownsRow base' e size v n xs:=by
 refine⟨h.1,?_⟩
 rcases h.2 with h | ⟨g,cap,cur,hv,hg,r⟩
 ·exact .inl h
 ·exact .inr ⟨g,cap,cur,hv,by omega,r⟩
theorem Bb (h:w.ownsRow base e size v n xs): ∃A c,v=.slice A n c/\n<=c/\c<=maxLen/\ ∀b,v.ownBlock=some b->base<=b/\b<w.heap.size:=by
 have hlt:=h.lt
 rcases h.2 with ⟨rfl,rfl⟩ | ⟨g,cap,cur,rfl,_,hh,h1,h2,_,_⟩
 ·exact⟨none,0,rfl,Nat.le_refl _,Nat.zero_le _,hlt⟩
 ·exact⟨_,_,rfl,h1,h2,hlt⟩
theorem dA (h:w.ownsRow base e size (.slice none n' n') n xs):n=0:=by
 rcases h.2 with ⟨_,h⟩ | ⟨g,cap,cur,hv,_⟩
 ·exact h
 ·cases hv
end
theorem CX {P:Program} {w:World} {ops:Array Oper} {rest:List Oper} {o:Oper} {a:Act} {Q:Exit->Act->World->Prop} (hgd:o.guard=none) (s x:Operand) (t:TypeId)
  (ho:o.op=.call {callee:=.builtin .append,args:= #[s,x],argTypes:= #[t,t]})
  (base:Nat) (e:TypeId) (i:TypeInfo) (z:Value) (size bytes:Nat) (ht:P.underlying t=some (.slice e)) (hi:P.info? e=some i) (hz:i.zero=some z)
  (hsize:i.size=size) (hby:i.bytes=bytes) (hzs:z.cells.size=size) (hsz:0<size)
  (v:Value) (n:Nat) (xs:List Value) (hs:a.eval s=v) (hown:w.ownsRow base e size v n xs) (cs:Array Value) (te:TypeId)
  (g:Nat) (hx:a.eval x=.slice (some ⟨g,0,none⟩) 1 1) (hcs:cs.size=size) (hgw:g=w.heap.size) (h1: ∀u∈cs.toList,u.oneCell'=true) (hb8:bytes<=64) (hn:n<=1099511627776) (hbase:base<=w.heap.size)
  (h: ∀v' w',w'.ownsRow base e size v' (n+1) (xs++cs.toList)->w.grownBy w' v.ownBlock->Moved w v v'->wpList P ops Q rest (a.put o.dst v') w'):
  wpList P ops Q (o::rest) a (w.alloc (.cells cs te)):=by
 subst hgw
 refine wpList_append_own_at (P:=P) (w.alloc (.cells cs te)) hgd s x t ho base e i z size bytes ht hi hz hsize hby hzs hsz v n xs hs (hown.alloc _) ⟨w.heap.size,0,none⟩ 1 1 cs.toList hx (by simpa using hcs) (fun j u hu=>?_)
  h1 (by simp only [maxLen];omega) ?_ (by simp;omega) ?_
 ·rw [Addr.add_lit,Nat.zero_add,(Box.new w te cs).cell j]
  simpa using hu
 ·have:(n+1)*bytes<=1099511627777*64:=Nat.mul_le_mul (by omega) hb8
  omega
 ·intro v' w' hown' hg _ hat
  refine h v' w' hown' ⟨hg.os,hg.tape,hg.output,Nat.le_trans (by simp) hg.size,fun k hk hne=>(hg.block k (by simp;omega) hne).trans (Below.heap_alloc w _ k hk)⟩ ?_
  rcases hat with hat | hat
  ·exact .inl hat
  ·exact .inr ⟨_,hat,by simp⟩
end Go.Proofs.YtoaabebgmdbjeaaGreatDoor
namespace Go.Proofs.YtoaabebgmdbjeaaGreatDoor
open Go.RowKit
theorem J9 {P:Program} {w:World} {ops:Array Oper} {o:Oper} {a:Act} {K:Act->World->Prop} {Q:Exit->Act->World->Prop} {E:Prop} (hgd:o.guard=none) (s x:Operand) (t:TypeId)
  (ho:o.op=.call {callee:=.builtin .append,args:= #[s,x],argTypes:= #[t,t]})
  (base:Nat) (e:TypeId) (i:TypeInfo) (z:Value) (size bytes:Nat) (ht:P.underlying t=some (.slice e)) (hi:P.info? e=some i) (hz:i.zero=some z)
  (hsize:i.size=size) (hby:i.bytes=bytes) (hzs:z.cells.size=size) (hsz:0<size)
  (v:Value) (n:Nat) (xs:List Value) (hs:a.eval s=v) (hown:w.ownsRow base e size v n xs) (cs:Array Value) (te:TypeId)
  (g:Nat) (hx:a.eval x=.slice (some ⟨g,0,none⟩) 1 1) (hb:Box w g te cs) (hcs:cs.size=size) (h1: ∀u∈cs.toList,u.oneCell'=true) (hb8:bytes<=64) (hn:n<=1099511627776) (hbase:base<=w.heap.size)
  (h: ∀v' w',w'.ownsRow base e size v' (n+1) (xs++cs.toList)->w.grownBy w' v.ownBlock->Moved w v v'->K (a.put o.dst v') w'):
  if Region.wanted o (yielded ops a.tmps)=true then Oper.wp P o a w K Q else E:=by
 have hw:Region.wanted o (yielded ops a.tmps)=true:=by simp [Region.wanted,hgd]
 rw [if_pos hw]
 obtain⟨v',w',hr,h2,h3,_,h5⟩:=run_append_own_at (P:=P) w base t o.type e i z size bytes ht hi hz hsize hby hzs hsz v n xs hown ⟨g,0,none⟩ 1 1 cs.toList (by simpa using hcs) (fun j u hu=>by
  rw [Addr.add_lit,Nat.zero_add,hb.cell j]
  simpa using hu) h1 (by simp only [maxLen];omega) (by have:(n+1)*bytes<=1099511627777*64:=Nat.mul_le_mul (by omega) hb8;omega) hbase
 unfold Oper.wp execOp
 simp only [ho,resolve,invoke,builtin,Sem.run_bind,Sem.run_pure,Result.andThen_ok,List.map_toArray,List.map_cons,List.map_nil,hs,hx,hr]
 refine h v' w' h2 h3 ?_
 rcases h5 with hat | hat
 ·exact .inl hat
 ·exact .inr ⟨_,hat,Nat.le_refl _⟩
end Go.Proofs.YtoaabebgmdbjeaaGreatDoor
namespace Go.Proofs.YtoaabebgmdbjeaaGreatDoor
open Go.RowKit
section
variable {P:Program} {ops:Array Oper} {Q:Exit->Act->World->Prop} {md:Region.Mode}
def FY (listed:Array Bool):Nat:=listed.toList.count false
theorem count_set: ∀(l:List Bool) (i:Nat),l[i]? =some false->(l.set i true).count false+1=l.count false
 | [],i,h=>by simp at h
 | b::l,0,h=>by simp at h;subst h;simp
 | b::l,i+1,h=>by
  have:=count_set l i (by simpa using h)
  simp only [List.set_cons_succ,List.count_cons]
  omega
theorem Ja {listed:Array Bool} {i:Nat} (h:listed[i]? =some false):FY (listed.setIfInBounds i true)+1=FY listed:=by
 unfold FY
 rw [Array.toList_setIfInBounds]
 exact count_set _ _ (by simpa using h)
theorem Ij {listed:Array Bool} {i:Nat} (h:i∈Region.ready md ops listed):listed[i]? =some false/\ ∃o,ops[i]? =some o/\ ∀e∈o.after,Region.binds md e=true->listed.getD e.on false=true:=by
 unfold Region.ready at h
 rw [List.mem_filter] at h
 obtain⟨_,h⟩:=h
 simp only [Bool.and_eq_true,Bool.not_eq_true'] at h
 obtain⟨h1,h2⟩:=h
 refine⟨?_,?_⟩
 ·by_cases hi:i<listed.size
  ·rw [Array.getElem?_eq_getElem hi]
   simpa [hi] using h1
  ·simp [Array.getD,hi] at h1
 ·cases ho:ops[i]? with
  | none=>simp [ho] at h2
  | some o=>
   refine⟨o,rfl,fun e he hb=>?_⟩
   simp only [ho,Option.map_some,Option.getD_some,Array.all_eq_true'] at h2
   have:=h2 e he
   simpa [hb] using this
theorem VQ {listed:Array Bool} (hsz:listed.size=ops.size) (h0:FY listed=0):Region.ready md ops listed= [] :=by
 rw [List.eq_nil_iff_forall_not_mem]
 intro i hi
 have:=Ja (Ij hi).1
 omega
theorem NU {J:Array Bool->Act->World->Prop}
  (done: ∀listed a w,listed.size=ops.size->Region.ready md ops listed= [] ->J listed a w->Q .normal a w)
  (step: ∀listed a w i,listed.size=ops.size->i∈Region.ready md ops listed->J listed a w->wpOp P ops Q i (J (listed.setIfInBounds i true)) a w):
  ∀fuel listed a w,listed.size=ops.size->FY listed<=fuel->J listed a w->wpAny P md ops Q fuel listed a w:=by
 intro fuel
 induction fuel with
 | zero=>
  intro listed a w hs hl hJ
  have:=VQ (md:=md) hs (by omega)
  exact⟨this,done _ _ _ hs this hJ⟩
 | succ fuel ih=>
  intro listed a w hs hl hJ
  refine⟨fun h=>done _ _ _ hs h hJ,fun i hi=>?_⟩
  refine wpOp_mono (fun a' w' h'=>?_) (step _ _ _ i hs hi hJ)
  have:=Ja (Ij hi).1
  exact ih _ _ _ (by simpa using hs) (by omega) h'
def LZ (ops:Array Oper):Bool:=(List.range ops.size).all fun i=>((ops[i]?).map fun o=>o.after.all fun e=> !Region.binds .any e||decide (e.on<i)).getD true
theorem ready_nil {listed:Array Bool} (hd:LZ ops=true) (hsz:listed.size=ops.size) (h:Region.ready .any ops listed= []): ∀i,i<ops.size->listed.getD i false=true:=by
 intro i
 induction i using Nat.strongRecOn with
 | ind i ih=>
  intro hi
  by_cases hl:listed.getD i false=true
  ·exact hl
  exfalso
  have hmem:i∈Region.ready .any ops listed:=by
   unfold Region.ready
   rw [List.mem_filter]
   refine⟨by simpa using hi,?_⟩
   have hli:i<listed.size:=by omega
   have e1:listed.getD i true=false:=by
    simp only [Array.getD,hli,dite_true] at hl⊢
    simpa using hl
   have ho:ops[i]? =some ops[i] :=Array.getElem?_eq_getElem hi
   have hda:=List.all_eq_true.1 hd i (by simpa using hi)
   rw [ho] at hda⊢
   simp only [Option.map_some,Option.getD_some,Array.all_eq_true'] at hda⊢
   simp only [e1,Bool.not_false,Bool.true_and,Array.all_eq_true']
   intro e he
   have:=hda e he
   simp only [Bool.or_eq_true,Bool.not_eq_true',decide_eq_true_eq] at this⊢
   rcases this with h | h
   ·exact .inl h
   ·exact .inr (ih e.on h (by omega))
  rw [h] at hmem
  cases hmem
def Bp (ops:Array Oper) (j:Nat):Option Tmp:=(ops[j]?).bind (·.dst)
def valOf (ops:Array Oper) (j:Nat) (a:Act):Value:=match Bp ops j with | some d=>a.tmps.getD d undef | none=>undef
def GI (ops:Array Oper) (n:Nat):Bool:=(List.range ops.size).all fun i=>((Bp ops i).map fun d=>decide (d<n)&&(List.range i).all fun j=>Bp ops j !=some d).getD true
def mark (L:Nat->Bool) (i:Nat):Nat->Bool:=fun k=>if k=i then true else L k
def EH (ops:Array Oper) (a0 a:Act):Prop:=a.tmps.size=a0.tmps.size/\a.defers=a0.defers/\ ∀d,(∀j,Bp ops j≠some d)->a.tmps.getD d undef=a0.tmps.getD d undef
theorem EH.put {a0 a:Act} (h:EH ops a0 a) {i:Nat} {o:Oper} (ho:ops[i]? =some o) (v:Value):EH ops a0 (a.put o.dst v):=by
 obtain⟨h1,h2,h3⟩:=h
 cases hd:o.dst with
 | none=>exact⟨h1,h2,h3⟩
 | some d=>
  refine⟨by simpa [Act.put] using h1,h2,fun d' hd'=>?_⟩
  have hne:d≠d':=fun e=>hd' i (by simp [Bp,ho,hd,e])
  rw [<- h3 d' hd']
  simp [Act.put,Array.getD_eq_getD_getElem?,Array.getElem?_setIfInBounds_ne hne]
theorem Pt {n:Nat} (hs:GI ops n=true) {i j:Nat} {d:Tmp} (hi:Bp ops i=some d) (hj:Bp ops j=some d):i=j:=by
 have lt: ∀i d,Bp ops i=some d->i<ops.size:=fun i d h=>by
  unfold Bp at h
  cases ho:ops[i]? with
  | none=>simp [ho] at h
  | some o=>exact(Array.getElem?_eq_some_iff.1 ho).1
 have key: ∀i j,Bp ops i=some d->Bp ops j=some d-> ¬j<i:=fun i j hi hj hlt=>by
  have:=List.all_eq_true.1 hs i (by simpa using lt i d hi)
  rw [hi] at this
  simp only [Option.map_some,Option.getD_some,Bool.and_eq_true] at this
  have:=List.all_eq_true.1 this.2 j (by simpa using hlt)
  simp [hj] at this
 have:=key i j hi hj
 have:=key j i hj hi
 omega
theorem dB {n:Nat} (hs:GI ops n=true) {i:Nat} {d:Tmp} (hi:Bp ops i=some d):d<n:=by
 have lt:i<ops.size:=by
  unfold Bp at hi
  cases ho:ops[i]? with
  | none=>simp [ho] at hi
  | some o=>exact(Array.getElem?_eq_some_iff.1 ho).1
 have:=List.all_eq_true.1 hs i (by simpa using lt)
 rw [hi] at this
 simp only [Option.map_some,Option.getD_some,Bool.and_eq_true,decide_eq_true_eq] at this
 exact this.1
theorem Jb {n:Nat} (hs:GI ops n=true) {i j:Nat} {o:Oper} {a:Act} (ho:ops[i]? =some o) (hne:i≠j) (v:Value):valOf ops j (a.put o.dst v)=valOf ops j a:=by
 unfold valOf
 cases hj:Bp ops j with
 | none=>rfl
 | some d=>
  cases hd:o.dst with
  | none=>rfl
  | some d'=>
   have:d'≠d:=fun e=>hne (Pt hs (d:=d) (by simp [Bp,ho,hd,e]) hj)
   simp [Act.put,Array.getD_eq_getD_getElem?,Array.getElem?_setIfInBounds_ne this]
theorem Jc {n:Nat} (hs:GI ops n=true) {i:Nat} {o:Oper} {a:Act} (ho:ops[i]? =some o) (hn:a.tmps.size=n) (v:Value) (hv:o.dst=none->v=undef):valOf ops i (a.put o.dst v)=v:=by
 have hsl:Bp ops i=o.dst:=by simp [Bp,ho]
 unfold valOf
 rw [hsl]
 cases hd:o.dst with
 | none=>exact(hv hd).symm
 | some d=>
  have:d<a.tmps.size:=by rw [hn];exact dB hs (hsl.trans hd)
  simp [Act.put,Array.getD_eq_getD_getElem?,this]
def Closed (ops:Array Oper) (L:Nat->Bool):Prop:= ∀j,L j=true-> ∀o,ops[j]? =some o-> ∀e∈o.after,Region.binds .any e=true->L e.on=true
theorem Closed.mark {L:Nat->Bool} {i:Nat} (h:Closed ops L) (hi: ∀o,ops[i]? =some o-> ∀e∈o.after,Region.binds .any e=true->L e.on=true):Closed ops (mark L i):=fun j hj o ho e he hb=>by
 have:L e.on=true:=by
  unfold Go.Proofs.YtoaabebgmdbjeaaGreatDoor.mark at hj
  split at hj
  ·rename_i hji
   subst hji
   exact hi o ho e he hb
  ·exact h j hj o ho e he hb
 unfold Go.Proofs.YtoaabebgmdbjeaaGreatDoor.mark
 split
 ·rfl
 ·exact this
def UW (P:Program) (ops:Array Oper) (Q:Exit->Act->World->Prop) (Ev:Nat->World->World->Prop) (Phi:Nat->Value->World->Prop) (a:Act) (w:World) (i:Nat):Prop:=
 wpOp P ops Q i (fun a' w'=> ∃o v,ops[i]? =some o/\(o.dst=none->v=undef)/\a'=a.put o.dst v/\Ev i w w'/\Phi i v w') a w
def upd (u:Nat->Value) (i:Nat) (v:Value):Nat->Value:=fun j=>if j=i then v else u j
def Step (P:Program) (ops:Array Oper) (Q:Exit->Act->World->Prop) (J:(Nat->Bool)->(Nat->Value)->World->Prop) (L:Nat->Bool) (a:Act) (w:World) (i:Nat):Prop:=
 wpOp P ops Q i (fun a' w'=> ∃o v,ops[i]? =some o/\(o.dst=none->v=undef)/\a'=a.put o.dst v/\J (mark L i) (upd (fun j=>valOf ops j a) i v) w') a w
theorem DF {id n:Nat} {a0:Act} {w0:World} (J:(Nat->Bool)->(Nat->Value)->World->Prop)
  (hm:P.follows .mixedOrders=true) (hd:LZ ops=true) (hs:GI ops n=true) (hn:a0.tmps.size=n)
  (hJ: ∀L u u' w,(∀j,j<ops.size->u j=u' j)->J L u w->J L u' w)
  (hstep: ∀i,i<ops.size-> ∀L a w,L i=false->EH ops a0 a->a.tmps.size=n->J L (fun j=>valOf ops j a) w->(∀o,ops[i]? =some o-> ∀e∈o.after,Region.binds .any e=true->L e.on=true)->Closed ops L->
   Step P ops Q J L a w i)
  (hdone: ∀L a w,EH ops a0 a->a.tmps.size=n->J L (fun j=>valOf ops j a) w->(∀j,j<ops.size->L j=true)->Q .normal a w)
  (h0:J (fun _=>false) (fun j=>valOf ops j a0) {w0 with drawn:=w0.drawn+1}):(Code.region id ops true).wp P Q a0 w0:=by
 refine wp_region_any hm (NU (J:=fun listed a w=>EH ops a0 a/\Closed ops (fun k=>listed.getD k false)/\J (fun k=>listed.getD k false) (fun j=>valOf ops j a) w) ?_ ?_ _ _ _ _ (by simp) ?_ ?_)
 ·intro listed a w hsz hr ⟨h1,hc,h2⟩
  exact hdone _ a w h1 (h1.1.trans hn) h2 (ready_nil hd hsz hr)
 ·intro listed a w i hsz hi ⟨h1,hc,h2⟩
  obtain⟨hli,o,ho,AJ⟩:=Ij hi
  have hil:i<ops.size:=(Array.getElem?_eq_some_iff.1 ho).1
  have hL:listed.getD i false=false:=by rw [Array.getD_eq_getD_getElem?,hli];rfl
  refine wpOp_mono (fun a' w' h'=>?_) (hstep i hil (fun k=>listed.getD k false) a w hL h1 (h1.1.trans hn) h2 (fun o' ho'=>by rw [ho] at ho';cases ho';exact AJ) hc)
  obtain⟨o',v,ho',hv,rfl,hj⟩:=h'
  rw [ho] at ho'
  cases ho'
  have hmk:(fun k=>(listed.setIfInBounds i true).getD k false)=mark (fun k=>listed.getD k false) i:=by
   funext k
   unfold mark
   by_cases hk:k=i
   ·subst hk
    have:k<listed.size:=by omega
    simp [Array.getD_eq_getD_getElem?,this]
   ·simp [Array.getD_eq_getD_getElem?,hk,Array.getElem?_setIfInBounds_ne (Ne.symm hk)]
  refine⟨h1.put ho v,by rw [hmk];exact hc.mark (fun o' ho'=>by rw [ho] at ho';cases ho';exact AJ),?_⟩
  rw [hmk]
  refine hJ _ _ _ _ (fun j hjl=>?_) hj
  unfold upd
  by_cases hji:j=i
  ·subst hji
   rw [if_pos rfl,Jc hs ho (h1.1.trans hn) v hv]
  ·rw [if_neg hji,Jb hs ho (Ne.symm hji)]
 ·unfold FY
  rw [Array.toList_replicate,List.count_replicate]
  simp
 ·refine⟨⟨rfl,rfl,fun _ _=>rfl⟩,?_,?_⟩
  ·intro j hj
   simp only [Array.getD_eq_getD_getElem?,Array.getElem?_replicate] at hj
   split at hj<;>simp at hj
  have:(fun k=>(Array.replicate ops.size false).getD k false)=fun _=>false:=by
   funext k
   simp only [Array.getD_eq_getD_getElem?,Array.getElem?_replicate]
   split<;>rfl
  rw [this]
  exact h0
theorem Pv {i:Nat} {o:Oper} {K:Act->World->Prop} {a:Act} {w w':World} {v:Value} (ho:ops[i]? =some o) (hw:Region.wanted o (yielded ops a.tmps)=true) (hr:(execOp a.eval o).run P w=.ok (.value v) w') (hk:K (a.put o.dst v) w'):wpOp P ops Q i K a w:=by
 unfold wpOp
 simp only [ho,hw,if_true]
 refine .inl ?_
 unfold Oper.wp
 rw [hr]
 exact hk
theorem VR {i:Nat} {o:Oper} {K:Act->World->Prop} {a:Act} {w w':World} (ho:ops[i]? =some o) (hw:Region.wanted o (yielded ops a.tmps)=true) (hr:(execOp a.eval o).run P w=.ok .skip w') (hk:K (a.put o.dst undef) w'):wpOp P ops Q i K a w:=by
 unfold wpOp
 simp only [ho,hw,if_true]
 refine .inl ?_
 unfold Oper.wp
 rw [hr]
 exact hk
theorem NV {i:Nat} {o:Oper} {K:Act->World->Prop} {a:Act} {w w':World} {f:FuncId} {args:Array Value} (ho:ops[i]? =some o) (hw:Region.wanted o (yielded ops a.tmps)=true) (hr:(execOp a.eval o).run P w=.ok (.enter f args) w')
  (hc:Calls P f args w' fun e w''=> ∃v,e=.returned v/\K (a.put o.dst v) w''):wpOp P ops Q i K a w:=by
 unfold wpOp
 simp only [ho,hw,if_true]
 refine .inl ?_
 unfold Oper.wp
 rw [hr]
 refine Calls.mono hc ?_
 rintro e w'' ⟨v,rfl,h⟩
 exact h
theorem AV {o:Oper} {y:Nat->Option Bool} (h:o.guard=none):Region.wanted o y=true:=by simp [Region.wanted,h]
theorem BK {o:Oper} {a:Act} {g:Nat} {b:Bool} (h:o.guard=some (g,b)) (hv:valOf ops g a=.bool b):Region.wanted o (yielded ops a.tmps)=true:=by
 have:yielded ops a.tmps g=some b:=by
  unfold yielded
  unfold valOf at hv
  cases hd:Bp ops g with
  | none=>simp [hd] at hv;cases hv
  | some d=>
   rw [hd] at hv
   have hd':(ops[g]?).bind (·.dst)=some d:=hd
   rw [hd']
   simp only [Option.bind_some,Array.getD_eq_getD_getElem?] at hv⊢
   cases hx:a.tmps[d]? with
   | none=>rw [hx] at hv;simp at hv;cases hv
   | some x=>rw [hx] at hv;simp at hv;subst hv;rfl
 simp [Region.wanted,h,this]
theorem AU {a:Act} {j d:Nat} {v:Value} (hs:Bp ops j=some d) (hv:valOf ops j a=v):a.eval (.tmp d)=v:=by
 unfold valOf at hv
 rw [hs] at hv
 exact hv
theorem AY {a0 a:Act} {d:Nat} (h:EH ops a0 a) (hd:(List.range ops.size).all (fun j=>Bp ops j !=some d)=true):a.eval (.tmp d)=a0.eval (.tmp d):=by
 refine h.2.2 d (fun j hj=>?_)
 have hl:j<ops.size:=by
  unfold Bp at hj
  cases ho:ops[j]? with
  | none=>simp [ho] at hj
  | some o=>exact(Array.getElem?_eq_some_iff.1 ho).1
 have:=List.all_eq_true.1 hd j (by simpa using hl)
 simp [hj] at this
section
variable {J:(Nat->Bool)->(Nat->Value)->World->Prop} {L:Nat->Bool} {a:Act} {w:World} {i:Nat}
theorem Step.val (o:Oper) (ho:ops[i]? =some o) (hd:o.dst.isSome=true) (hw:Region.wanted o (yielded ops a.tmps)=true) (v:Value) (w':World) (hr: ∀ρ:Operand->Value,(∀x,a.eval x=ρ x)->(execOp ρ o).run P w=.ok (.value v) w') (hj:J (mark L i) (upd (fun j=>valOf ops j a) i v) w'):Step P ops Q J L a w i:=
 Pv ho hw (hr _ fun _=>rfl) ⟨o,v,ho,fun h=>by simp [h] at hd,rfl,hj⟩
theorem Step.skip (o:Oper) (ho:ops[i]? =some o) (hw:Region.wanted o (yielded ops a.tmps)=true) (w':World) (hr: ∀ρ:Operand->Value,(∀x,a.eval x=ρ x)->(execOp ρ o).run P w=.ok .skip w') (hj:J (mark L i) (upd (fun j=>valOf ops j a) i undef) w'):Step P ops Q J L a w i:=
 VR ho hw (hr _ fun _=>rfl) ⟨o,undef,ho,fun _=>rfl,rfl,hj⟩
theorem Step.call (o:Oper) (ho:ops[i]? =some o) (hd:o.dst.isSome=true) (hw:Region.wanted o (yielded ops a.tmps)=true) (f:FuncId) (args:Array Value) (hr: ∀ρ:Operand->Value,(∀x,a.eval x=ρ x)->(execOp ρ o).run P w=.ok (.enter f args) w)
  (hc:Calls P f args w fun e w''=> ∃v,e=.returned v/\J (mark L i) (upd (fun j=>valOf ops j a) i v) w''):Step P ops Q J L a w i:=
 NV ho hw (hr _ fun _=>rfl) (Calls.mono hc (by
  rintro e w'' ⟨v,rfl,hj⟩
  exact⟨v,rfl,o,v,ho,fun h=>by simp [h] at hd,rfl,hj⟩))
end
section
variable {Ev:Nat->World->World->Prop} {Phi:Nat->Value->World->Prop} {a:Act} {w:World} {i:Nat}
theorem UW.val (o:Oper) (ho:ops[i]? =some o) (hd:o.dst.isSome=true) (hw:Region.wanted o (yielded ops a.tmps)=true) (v:Value) (w':World) (hr: ∀ρ:Operand->Value,(∀x,a.eval x=ρ x)->(execOp ρ o).run P w=.ok (.value v) w') (he:Ev i w w') (hp:Phi i v w'):UW P ops Q Ev Phi a w i:=
 Pv ho hw (hr _ fun _=>rfl) ⟨o,v,ho,fun h=>by simp [h] at hd,rfl,he,hp⟩
theorem UW.call (o:Oper) (ho:ops[i]? =some o) (hd:o.dst.isSome=true) (hw:Region.wanted o (yielded ops a.tmps)=true) (f:FuncId) (args:Array Value) (hr: ∀ρ:Operand->Value,(∀x,a.eval x=ρ x)->(execOp ρ o).run P w=.ok (.enter f args) w)
  (hc:Calls P f args w fun e w''=> ∃v,e=.returned v/\Ev i w w''/\Phi i v w''):UW P ops Q Ev Phi a w i:=
 NV ho hw (hr _ fun _=>rfl) (Calls.mono hc (by
  rintro e w'' ⟨v,rfl,he,hp⟩
  exact⟨v,rfl,o,v,ho,fun h=>by simp [h] at hd,rfl,he,hp⟩))
end
theorem AZ {L:Nat->Bool} {i:Nat} (AJ: ∀o,ops[i]? =some o-> ∀e∈o.after,Region.binds .any e=true->L e.on=true) (j:Nat) (h:((ops[i]?).map fun o=>o.after.any fun e=>Region.binds .any e&&e.on==j).getD false=true):L j=true:=by
 cases ho:ops[i]? with
 | none=>rw [ho] at h;simp at h
 | some o=>
  rw [ho] at h
  simp only [Option.map_some,Option.getD_some,Array.any_eq_true'] at h
  obtain⟨e,he,h⟩:=h
  simp only [Bool.and_eq_true,beq_iff_eq] at h
  exact h.2▸AJ o ho e he h.1
def Az (ops:Array Oper) (u:Nat->Value):Nat->Act->Act
 | 0,a=>a
 | k+1,a=>(Az ops u k a).put (Bp ops k) (u k)
theorem GK (u:Nat->Value) (a:Act): ∀k,(Az ops u k a).tmps.size=a.tmps.size/\(Az ops u k a).defers=a.defers
 | 0=>⟨rfl,rfl⟩
 | k+1=>by
  have:=GK u a k
  unfold Az
  cases Bp ops k with
  | none=>exact this
  | some d=>exact⟨by simpa [Act.put] using this.1,this.2⟩
theorem NY (u:Nat->Value) (a:Act) (d:Tmp): ∀k,(Az ops u k a).tmps[d]? =a.tmps[d]? \/ ∃j,j<k/\Bp ops j=some d/\(d<a.tmps.size->(Az ops u k a).tmps[d]? =some (u j))
 | 0=>.inl rfl
 | k+1=>by
  have ih:=NY u a d k
  have hz:=(GK (ops:=ops) u a k).1
  unfold Az
  cases hs:Bp ops k with
  | none=>
   rcases ih with ih | ⟨j,hj,h1,h2⟩
   ·exact .inl ih
   ·exact .inr ⟨j,by omega,h1,h2⟩
  | some d'=>
   by_cases hd:d'=d
   ·subst hd
    exact .inr ⟨k,by omega,hs,fun hlt=>by simp [Act.put,hz,hlt]⟩
   ·rcases ih with ih | ⟨j,hj,h1,h2⟩
    ·exact .inl (by simp only [Act.put];rw [Array.getElem?_setIfInBounds_ne hd];exact ih)
    ·exact .inr ⟨j,by omega,h1,fun hlt=>by simp only [Act.put];rw [Array.getElem?_setIfInBounds_ne hd];exact h2 hlt⟩
theorem Pw (u:Nat->Value) (a:Act) (d:Tmp) (hd: ∀j,Bp ops j≠some d) (k:Nat):(Az ops u k a).tmps[d]? =a.tmps[d]? :=by
 rcases NY (ops:=ops) u a d k with h | ⟨j,_,h,_⟩
 ·exact h
 ·exact absurd h (hd j)
theorem JC (u:Nat->Value) (a:Act) (d:Tmp) (hd:d<a.tmps.size): ∀k j,j<k->Bp ops j=some d-> ∃i,Bp ops i=some d/\(Az ops u k a).tmps[d]? =some (u i)
 | 0,j,h,_=>by omega
 | k+1,j,h,hs=>by
  have hz:=(GK (ops:=ops) u a k).1
  unfold Az
  cases hk:Bp ops k with
  | none=>
   have:j≠k:=fun e=>by rw [e,hk] at hs;cases hs
   exact JC u a d hd k j (by omega) hs
  | some d'=>
   by_cases hdd:d'=d
   ·subst hdd
    exact⟨k,hk,by simp [Act.put,hz,hd]⟩
   ·have:j≠k:=fun e=>by rw [e,hk] at hs;cases hs;exact hdd rfl
    obtain⟨i,h1,h2⟩:=JC u a d hd k j (by omega) hs
    exact⟨i,h1,by simp only [Act.put];rw [Array.getElem?_setIfInBounds_ne hdd];exact h2⟩
theorem EY {a0 a:Act} (h:EH ops a0 a): ∃u:Nat->Value,(∀j,u j=valOf ops j a)/\a=Az ops u ops.size a0:=by
 obtain⟨h1,h2,h3⟩:=h
 refine⟨fun j=>valOf ops j a,fun _=>rfl,?_⟩
 obtain⟨hz,hd⟩:=GK (ops:=ops) (fun j=>valOf ops j a) a0 ops.size
 generalize hp:Az ops (fun j=>valOf ops j a) ops.size a0=p at hz hd
 have ht:a.tmps=p.tmps:=by
  apply Array.ext
  ·rw [hz,h1]
  ·intro d hd1 hd2
   have hd3:d<a0.tmps.size:=by rw [<- h1];exact hd1
   have g1:a.tmps[d]? =some a.tmps[d] :=Array.getElem?_eq_getElem hd1
   have g2:p.tmps[d]? =some p.tmps[d] :=Array.getElem?_eq_getElem hd2
   refine Option.some.inj (g1.symm.trans (Eq.trans ?_ g2))
   by_cases hs: ∃j,Bp ops j=some d
   ·obtain⟨j,hj⟩:=hs
    have hjl:j<ops.size:=by
     unfold Bp at hj
     cases ho:ops[j]? with
     | none=>simp [ho] at hj
     | some o=>exact(Array.getElem?_eq_some_iff.1 ho).1
    obtain⟨i,hi,hv⟩:=JC (ops:=ops) (fun j=>valOf ops j a) a0 d hd3 ops.size j hjl hj
    rw [hp] at hv
    rw [hv]
    simp only [valOf,hi,Array.getD_eq_getD_getElem?,g1,Option.getD_some]
   ·have hk:=Pw (ops:=ops) (fun j=>valOf ops j a) a0 d (fun j hj=>hs ⟨j,hj⟩) ops.size
    rw [hp] at hk
    rw [hk]
    have:=h3 d (fun j hj=>hs ⟨j,hj⟩)
    have g3:a0.tmps[d]? =some (a0.tmps[d]'hd3):=Array.getElem?_eq_getElem hd3
    simp only [Array.getD_eq_getD_getElem?,g1,g3,Option.getD_some] at this
    rw [g1,g3,this]
 obtain⟨t,df⟩:=a
 obtain⟨t',df'⟩:=p
 simp only [] at ht hd h2
 rw [ht,h2, <- hd]
theorem Eh {L:Nat->Bool} {i j:Nat} (h:j≠i):mark L i j=L j:=if_neg h
theorem Gt {L:Nat->Bool} {i:Nat}:mark L i i=true:=if_pos rfl
theorem FC {u:Nat->Value} {i j:Nat} {v:Value} (h:j≠i):upd u i v j=u j:=if_neg h
theorem EZ {u:Nat->Value} {i:Nat} {v:Value}:upd u i v i=v:=if_pos rfl
end
end Go.Proofs.YtoaabebgmdbjeaaGreatDoor
namespace Go.Proofs.YtoaabebgmdbjeaaGreatDoor
theorem Af {p:Nat->Prop} {n:Nat} (h:p 0) (h': ∀i,i<n->p (i+1)): ∀i,i<n+1->p i:=fun i hi=>match i,hi with
 | 0,_=>h
 | i+1,hi=>h' i (Nat.lt_of_succ_lt_succ hi)
theorem kV {p:Nat->Prop} (h:p 0): ∀i,i<1->p i:=Af h (fun i hi=>absurd hi (Nat.not_lt_zero i))
theorem kW {p:Nat->Prop} (h:p 0/\p 1): ∀i,i<2->p i:=Af h.1 (kV (p:=fun i=>p (i+1)) h.2)
theorem kX {p:Nat->Prop} (h:p 0/\p 1/\p 2): ∀i,i<3->p i:=Af h.1 (kW (p:=fun i=>p (i+1)) h.2)
theorem kY {p:Nat->Prop} (h:p 0/\p 1/\p 2/\p 3): ∀i,i<4->p i:=Af h.1 (kX (p:=fun i=>p (i+1)) h.2)
theorem OY {p:Nat->Prop} (h:p 0/\p 1/\p 2/\p 3/\p 4): ∀i,i<5->p i:=Af h.1 (kY (p:=fun i=>p (i+1)) h.2)
theorem kZ {p:Nat->Prop} (h:p 0/\p 1/\p 2/\p 3/\p 4/\p 5): ∀i,i<6->p i:=Af h.1 (OY (p:=fun i=>p (i+1)) h.2)
theorem La {p:Nat->Prop} (h:p 0/\p 1/\p 2/\p 3/\p 4/\p 5/\p 6): ∀i,i<7->p i:=Af h.1 (kZ (p:=fun i=>p (i+1)) h.2)
theorem YI {p:Nat->Prop} (h:p 0/\p 1/\p 2/\p 3/\p 4/\p 5/\p 6/\p 7): ∀i,i<8->p i:=Af h.1 (La (p:=fun i=>p (i+1)) h.2)
theorem kg {p:Nat->Prop} (h:p 0/\p 1/\p 2/\p 3/\p 4/\p 5/\p 6/\p 7/\p 8): ∀i,i<9->p i:=Af h.1 (YI (p:=fun i=>p (i+1)) h.2)
theorem K6 {p:Nat->Prop} (h:p 0/\p 1/\p 2/\p 3/\p 4/\p 5/\p 6/\p 7/\p 8/\p 9): ∀i,i<10->p i:=Af h.1 (kg (p:=fun i=>p (i+1)) h.2)
theorem K7 {p:Nat->Prop} (h:p 0/\p 1/\p 2/\p 3/\p 4/\p 5/\p 6/\p 7/\p 8/\p 9/\p 10): ∀i,i<11->p i:=Af h.1 (K6 (p:=fun i=>p (i+1)) h.2)
theorem GL {p:Nat->Prop} (h:p 0/\p 1/\p 2/\p 3/\p 4/\p 5/\p 6/\p 7/\p 8/\p 9/\p 10/\p 11): ∀i,i<12->p i:=Af h.1 (K7 (p:=fun i=>p (i+1)) h.2)
theorem dD {p:Nat->Prop} (h:p 0/\p 1/\p 2/\p 3/\p 4/\p 5/\p 6/\p 7/\p 8/\p 9/\p 10/\p 11/\p 12): ∀i,i<13->p i:=Af h.1 (GL (p:=fun i=>p (i+1)) h.2)
theorem OZ {p:Nat->Prop} (h:p 0/\p 1/\p 2/\p 3/\p 4/\p 5/\p 6/\p 7/\p 8/\p 9/\p 10/\p 11/\p 12/\p 13): ∀i,i<14->p i:=Af h.1 (dD (p:=fun i=>p (i+1)) h.2)
theorem dF {p:Nat->Prop} (h:p 0/\p 1/\p 2/\p 3/\p 4/\p 5/\p 6/\p 7/\p 8/\p 9/\p 10/\p 11/\p 12/\p 13/\p 14): ∀i,i<15->p i:=Af h.1 (OZ (p:=fun i=>p (i+1)) h.2)
theorem dG {p:Nat->Prop} (h:p 0/\p 1/\p 2/\p 3/\p 4/\p 5/\p 6/\p 7/\p 8/\p 9/\p 10/\p 11/\p 12/\p 13/\p 14/\p 15): ∀i,i<16->p i:=Af h.1 (dF (p:=fun i=>p (i+1)) h.2)
theorem Oa {p:Nat->Prop} (h:p 0/\p 1/\p 2/\p 3/\p 4/\p 5/\p 6/\p 7/\p 8/\p 9/\p 10/\p 11/\p 12/\p 13/\p 14/\p 15/\p 16): ∀i,i<17->p i:=Af h.1 (dG (p:=fun i=>p (i+1)) h.2)
theorem dH {p:Nat->Prop} (h:p 0/\p 1/\p 2/\p 3/\p 4/\p 5/\p 6/\p 7/\p 8/\p 9/\p 10/\p 11/\p 12/\p 13/\p 14/\p 15/\p 16/\p 17): ∀i,i<18->p i:=Af h.1 (Oa (p:=fun i=>p (i+1)) h.2)
theorem dI {p:Nat->Prop} (h:p 0/\p 1/\p 2/\p 3/\p 4/\p 5/\p 6/\p 7/\p 8/\p 9/\p 10/\p 11/\p 12/\p 13/\p 14/\p 15/\p 16/\p 17/\p 18): ∀i,i<19->p i:=Af h.1 (dH (p:=fun i=>p (i+1)) h.2)
theorem dJ {p:Nat->Prop} (h:p 0/\p 1/\p 2/\p 3/\p 4/\p 5/\p 6/\p 7/\p 8/\p 9/\p 10/\p 11/\p 12/\p 13/\p 14/\p 15/\p 16/\p 17/\p 18/\p 19): ∀i,i<20->p i:=Af h.1 (dI (p:=fun i=>p (i+1)) h.2)
theorem UY {p:Nat->Prop} (h:p 0/\p 1/\p 2/\p 3/\p 4/\p 5/\p 6/\p 7/\p 8/\p 9/\p 10/\p 11/\p 12/\p 13/\p 14/\p 15/\p 16/\p 17/\p 18/\p 19/\p 20): ∀i,i<21->p i:=Af h.1 (dJ (p:=fun i=>p (i+1)) h.2)
theorem dK {p:Nat->Prop} (h:p 0/\p 1/\p 2/\p 3/\p 4/\p 5/\p 6/\p 7/\p 8/\p 9/\p 10/\p 11/\p 12/\p 13/\p 14/\p 15/\p 16/\p 17/\p 18/\p 19/\p 20/\p 21): ∀i,i<22->p i:=Af h.1 (UY (p:=fun i=>p (i+1)) h.2)
theorem dL {p:Nat->Prop} (h:p 0/\p 1/\p 2/\p 3/\p 4/\p 5/\p 6/\p 7/\p 8/\p 9/\p 10/\p 11/\p 12/\p 13/\p 14/\p 15/\p 16/\p 17/\p 18/\p 19/\p 20/\p 21/\p 22): ∀i,i<23->p i:=Af h.1 (dK (p:=fun i=>p (i+1)) h.2)
theorem dM {p:Nat->Prop} (h:p 0/\p 1/\p 2/\p 3/\p 4/\p 5/\p 6/\p 7/\p 8/\p 9/\p 10/\p 11/\p 12/\p 13/\p 14/\p 15/\p 16/\p 17/\p 18/\p 19/\p 20/\p 21/\p 22/\p 23): ∀i,i<24->p i:=Af h.1 (dL (p:=fun i=>p (i+1)) h.2)
theorem dN {p:Nat->Prop} (h:p 0/\p 1/\p 2/\p 3/\p 4/\p 5/\p 6/\p 7/\p 8/\p 9/\p 10/\p 11/\p 12/\p 13/\p 14/\p 15/\p 16/\p 17/\p 18/\p 19/\p 20/\p 21/\p 22/\p 23/\p 24): ∀i,i<25->p i:=Af h.1 (dM (p:=fun i=>p (i+1)) h.2)
theorem UZ {p:Nat->Prop} (h:p 0/\p 1/\p 2/\p 3/\p 4/\p 5/\p 6/\p 7/\p 8/\p 9/\p 10/\p 11/\p 12/\p 13/\p 14/\p 15/\p 16/\p 17/\p 18/\p 19/\p 20/\p 21/\p 22/\p 23/\p 24/\p 25): ∀i,i<26->p i:=Af h.1 (dN (p:=fun i=>p (i+1)) h.2)
theorem dO {p:Nat->Prop} (h:p 0/\p 1/\p 2/\p 3/\p 4/\p 5/\p 6/\p 7/\p 8/\p 9/\p 10/\p 11/\p 12/\p 13/\p 14/\p 15/\p 16/\p 17/\p 18/\p 19/\p 20/\p 21/\p 22/\p 23/\p 24/\p 25/\p 26): ∀i,i<27->p i:=Af h.1 (UZ (p:=fun i=>p (i+1)) h.2)
theorem dP {p:Nat->Prop} (h:p 0/\p 1/\p 2/\p 3/\p 4/\p 5/\p 6/\p 7/\p 8/\p 9/\p 10/\p 11/\p 12/\p 13/\p 14/\p 15/\p 16/\p 17/\p 18/\p 19/\p 20/\p 21/\p 22/\p 23/\p 24/\p 25/\p 26/\p 27): ∀i,i<28->p i:=Af h.1 (dO (p:=fun i=>p (i+1)) h.2)
theorem dQ {p:Nat->Prop} (h:p 0/\p 1/\p 2/\p 3/\p 4/\p 5/\p 6/\p 7/\p 8/\p 9/\p 10/\p 11/\p 12/\p 13/\p 14/\p 15/\p 16/\p 17/\p 18/\p 19/\p 20/\p 21/\p 22/\p 23/\p 24/\p 25/\p 26/\p 27/\p 28): ∀i,i<29->p i:=Af h.1 (dP (p:=fun i=>p (i+1)) h.2)
theorem dR {p:Nat->Prop} (h:p 0/\p 1/\p 2/\p 3/\p 4/\p 5/\p 6/\p 7/\p 8/\p 9/\p 10/\p 11/\p 12/\p 13/\p 14/\p 15/\p 16/\p 17/\p 18/\p 19/\p 20/\p 21/\p 22/\p 23/\p 24/\p 25/\p 26/\p 27/\p 28/\p 29): ∀i,i<30->p i:=Af h.1 (dQ (p:=fun i=>p (i+1)) h.2)
theorem dS {p:Nat->Prop} (h:p 0/\p 1/\p 2/\p 3/\p 4/\p 5/\p 6/\p 7/\p 8/\p 9/\p 10/\p 11/\p 12/\p 13/\p 14/\p 15/\p 16/\p 17/\p 18/\p 19/\p 20/\p 21/\p 22/\p 23/\p 24/\p 25/\p 26/\p 27/\p 28/\p 29/\p 30): ∀i,i<31->p i:=Af h.1 (dR (p:=fun i=>p (i+1)) h.2)
theorem dU {p:Nat->Prop} (h:p 0/\p 1/\p 2/\p 3/\p 4/\p 5/\p 6/\p 7/\p 8/\p 9/\p 10/\p 11/\p 12/\p 13/\p 14/\p 15/\p 16/\p 17/\p 18/\p 19/\p 20/\p 21/\p 22/\p 23/\p 24/\p 25/\p 26/\p 27/\p 28/\p 29/\p 30/\p 31): ∀i,i<32->p i:=Af h.1 (dS (p:=fun i=>p (i+1)) h.2)
theorem dV {p:Nat->Prop} (h:p 0/\p 1/\p 2/\p 3/\p 4/\p 5/\p 6/\p 7/\p 8/\p 9/\p 10/\p 11/\p 12/\p 13/\p 14/\p 15/\p 16/\p 17/\p 18/\p 19/\p 20/\p 21/\p 22/\p 23/\p 24/\p 25/\p 26/\p 27/\p 28/\p 29/\p 30/\p 31/\p 32): ∀i,i<33->p i:=Af h.1 (dU (p:=fun i=>p (i+1)) h.2)
theorem dW {p:Nat->Prop} (h:p 0/\p 1/\p 2/\p 3/\p 4/\p 5/\p 6/\p 7/\p 8/\p 9/\p 10/\p 11/\p 12/\p 13/\p 14/\p 15/\p 16/\p 17/\p 18/\p 19/\p 20/\p 21/\p 22/\p 23/\p 24/\p 25/\p 26/\p 27/\p 28/\p 29/\p 30/\p 31/\p 32/\p 33): ∀i,i<34->p i:=Af h.1 (dV (p:=fun i=>p (i+1)) h.2)
theorem dX {p:Nat->Prop} (h:p 0/\p 1/\p 2/\p 3/\p 4/\p 5/\p 6/\p 7/\p 8/\p 9/\p 10/\p 11/\p 12/\p 13/\p 14/\p 15/\p 16/\p 17/\p 18/\p 19/\p 20/\p 21/\p 22/\p 23/\p 24/\p 25/\p 26/\p 27/\p 28/\p 29/\p 30/\p 31/\p 32/\p 33/\p 34): ∀i,i<35->p i:=Af h.1 (dW (p:=fun i=>p (i+1)) h.2)
theorem dY {p:Nat->Prop} (h:p 0/\p 1/\p 2/\p 3/\p 4/\p 5/\p 6/\p 7/\p 8/\p 9/\p 10/\p 11/\p 12/\p 13/\p 14/\p 15/\p 16/\p 17/\p 18/\p 19/\p 20/\p 21/\p 22/\p 23/\p 24/\p 25/\p 26/\p 27/\p 28/\p 29/\p 30/\p 31/\p 32/\p 33/\p 34/\p 35): ∀i,i<36->p i:=Af h.1 (dX (p:=fun i=>p (i+1)) h.2)
theorem dZ {p:Nat->Prop} (h:p 0/\p 1/\p 2/\p 3/\p 4/\p 5/\p 6/\p 7/\p 8/\p 9/\p 10/\p 11/\p 12/\p 13/\p 14/\p 15/\p 16/\p 17/\p 18/\p 19/\p 20/\p 21/\p 22/\p 23/\p 24/\p 25/\p 26/\p 27/\p 28/\p 29/\p 30/\p 31/\p 32/\p 33/\p 34/\p 35/\p 36): ∀i,i<37->p i:=Af h.1 (dY (p:=fun i=>p (i+1)) h.2)
theorem dh {p:Nat->Prop} (h:p 0/\p 1/\p 2/\p 3/\p 4/\p 5/\p 6/\p 7/\p 8/\p 9/\p 10/\p 11/\p 12/\p 13/\p 14/\p 15/\p 16/\p 17/\p 18/\p 19/\p 20/\p 21/\p 22/\p 23/\p 24/\p 25/\p 26/\p 27/\p 28/\p 29/\p 30/\p 31/\p 32/\p 33/\p 34/\p 35/\p 36/\p 37): ∀i,i<38->p i:=Af h.1 (dZ (p:=fun i=>p (i+1)) h.2)
theorem dn {p:Nat->Prop} (h:p 0/\p 1/\p 2/\p 3/\p 4/\p 5/\p 6/\p 7/\p 8/\p 9/\p 10/\p 11/\p 12/\p 13/\p 14/\p 15/\p 16/\p 17/\p 18/\p 19/\p 20/\p 21/\p 22/\p 23/\p 24/\p 25/\p 26/\p 27/\p 28/\p 29/\p 30/\p 31/\p 32/\p 33/\p 34/\p 35/\p 36/\p 37/\p 38): ∀i,i<39->p i:=Af h.1 (dh (p:=fun i=>p (i+1)) h.2)
theorem dw {p:Nat->Prop} (h:p 0/\p 1/\p 2/\p 3/\p 4/\p 5/\p 6/\p 7/\p 8/\p 9/\p 10/\p 11/\p 12/\p 13/\p 14/\p 15/\p 16/\p 17/\p 18/\p 19/\p 20/\p 21/\p 22/\p 23/\p 24/\p 25/\p 26/\p 27/\p 28/\p 29/\p 30/\p 31/\p 32/\p 33/\p 34/\p 35/\p 36/\p 37/\p 38/\p 39): ∀i,i<40->p i:=Af h.1 (dn (p:=fun i=>p (i+1)) h.2)
theorem dx {p:Nat->Prop} (h:p 0/\p 1/\p 2/\p 3/\p 4/\p 5/\p 6/\p 7/\p 8/\p 9/\p 10/\p 11/\p 12/\p 13/\p 14/\p 15/\p 16/\p 17/\p 18/\p 19/\p 20/\p 21/\p 22/\p 23/\p 24/\p 25/\p 26/\p 27/\p 28/\p 29/\p 30/\p 31/\p 32/\p 33/\p 34/\p 35/\p 36/\p 37/\p 38/\p 39/\p 40): ∀i,i<41->p i:=Af h.1 (dw (p:=fun i=>p (i+1)) h.2)
theorem d9 {p:Nat->Prop} (h:p 0/\p 1/\p 2/\p 3/\p 4/\p 5/\p 6/\p 7/\p 8/\p 9/\p 10/\p 11/\p 12/\p 13/\p 14/\p 15/\p 16/\p 17/\p 18/\p 19/\p 20/\p 21/\p 22/\p 23/\p 24/\p 25/\p 26/\p 27/\p 28/\p 29/\p 30/\p 31/\p 32/\p 33/\p 34/\p 35/\p 36/\p 37/\p 38/\p 39/\p 40/\p 41): ∀i,i<42->p i:=Af h.1 (dx (p:=fun i=>p (i+1)) h.2)
theorem eB {p:Nat->Prop} (h:p 0/\p 1/\p 2/\p 3/\p 4/\p 5/\p 6/\p 7/\p 8/\p 9/\p 10/\p 11/\p 12/\p 13/\p 14/\p 15/\p 16/\p 17/\p 18/\p 19/\p 20/\p 21/\p 22/\p 23/\p 24/\p 25/\p 26/\p 27/\p 28/\p 29/\p 30/\p 31/\p 32/\p 33/\p 34/\p 35/\p 36/\p 37/\p 38/\p 39/\p 40/\p 41/\p 42): ∀i,i<43->p i:=Af h.1 (d9 (p:=fun i=>p (i+1)) h.2)
theorem eD {p:Nat->Prop} (h:p 0/\p 1/\p 2/\p 3/\p 4/\p 5/\p 6/\p 7/\p 8/\p 9/\p 10/\p 11/\p 12/\p 13/\p 14/\p 15/\p 16/\p 17/\p 18/\p 19/\p 20/\p 21/\p 22/\p 23/\p 24/\p 25/\p 26/\p 27/\p 28/\p 29/\p 30/\p 31/\p 32/\p 33/\p 34/\p 35/\p 36/\p 37/\p 38/\p 39/\p 40/\p 41/\p 42/\p 43): ∀i,i<44->p i:=Af h.1 (eB (p:=fun i=>p (i+1)) h.2)
theorem eF {p:Nat->Prop} (h:p 0/\p 1/\p 2/\p 3/\p 4/\p 5/\p 6/\p 7/\p 8/\p 9/\p 10/\p 11/\p 12/\p 13/\p 14/\p 15/\p 16/\p 17/\p 18/\p 19/\p 20/\p 21/\p 22/\p 23/\p 24/\p 25/\p 26/\p 27/\p 28/\p 29/\p 30/\p 31/\p 32/\p 33/\p 34/\p 35/\p 36/\p 37/\p 38/\p 39/\p 40/\p 41/\p 42/\p 43/\p 44): ∀i,i<45->p i:=Af h.1 (eD (p:=fun i=>p (i+1)) h.2)
theorem eG {p:Nat->Prop} (h:p 0/\p 1/\p 2/\p 3/\p 4/\p 5/\p 6/\p 7/\p 8/\p 9/\p 10/\p 11/\p 12/\p 13/\p 14/\p 15/\p 16/\p 17/\p 18/\p 19/\p 20/\p 21/\p 22/\p 23/\p 24/\p 25/\p 26/\p 27/\p 28/\p 29/\p 30/\p 31/\p 32/\p 33/\p 34/\p 35/\p 36/\p 37/\p 38/\p 39/\p 40/\p 41/\p 42/\p 43/\p 44/\p 45): ∀i,i<46->p i:=Af h.1 (eF (p:=fun i=>p (i+1)) h.2)
theorem eH {p:Nat->Prop} (h:p 0/\p 1/\p 2/\p 3/\p 4/\p 5/\p 6/\p 7/\p 8/\p 9/\p 10/\p 11/\p 12/\p 13/\p 14/\p 15/\p 16/\p 17/\p 18/\p 19/\p 20/\p 21/\p 22/\p 23/\p 24/\p 25/\p 26/\p 27/\p 28/\p 29/\p 30/\p 31/\p 32/\p 33/\p 34/\p 35/\p 36/\p 37/\p 38/\p 39/\p 40/\p 41/\p 42/\p 43/\p 44/\p 45/\p 46): ∀i,i<47->p i:=Af h.1 (eG (p:=fun i=>p (i+1)) h.2)
theorem eO {p:Nat->Prop} (h:p 0/\p 1/\p 2/\p 3/\p 4/\p 5/\p 6/\p 7/\p 8/\p 9/\p 10/\p 11/\p 12/\p 13/\p 14/\p 15/\p 16/\p 17/\p 18/\p 19/\p 20/\p 21/\p 22/\p 23/\p 24/\p 25/\p 26/\p 27/\p 28/\p 29/\p 30/\p 31/\p 32/\p 33/\p 34/\p 35/\p 36/\p 37/\p 38/\p 39/\p 40/\p 41/\p 42/\p 43/\p 44/\p 45/\p 46/\p 47): ∀i,i<48->p i:=Af h.1 (eH (p:=fun i=>p (i+1)) h.2)
theorem eP {p:Nat->Prop} (h:p 0/\p 1/\p 2/\p 3/\p 4/\p 5/\p 6/\p 7/\p 8/\p 9/\p 10/\p 11/\p 12/\p 13/\p 14/\p 15/\p 16/\p 17/\p 18/\p 19/\p 20/\p 21/\p 22/\p 23/\p 24/\p 25/\p 26/\p 27/\p 28/\p 29/\p 30/\p 31/\p 32/\p 33/\p 34/\p 35/\p 36/\p 37/\p 38/\p 39/\p 40/\p 41/\p 42/\p 43/\p 44/\p 45/\p 46/\p 47/\p 48): ∀i,i<49->p i:=Af h.1 (eO (p:=fun i=>p (i+1)) h.2)
theorem eT {p:Nat->Prop} (h:p 0/\p 1/\p 2/\p 3/\p 4/\p 5/\p 6/\p 7/\p 8/\p 9/\p 10/\p 11/\p 12/\p 13/\p 14/\p 15/\p 16/\p 17/\p 18/\p 19/\p 20/\p 21/\p 22/\p 23/\p 24/\p 25/\p 26/\p 27/\p 28/\p 29/\p 30/\p 31/\p 32/\p 33/\p 34/\p 35/\p 36/\p 37/\p 38/\p 39/\p 40/\p 41/\p 42/\p 43/\p 44/\p 45/\p 46/\p 47/\p 48/\p 49): ∀i,i<50->p i:=Af h.1 (eP (p:=fun i=>p (i+1)) h.2)
theorem eU {p:Nat->Prop} (h:p 0/\p 1/\p 2/\p 3/\p 4/\p 5/\p 6/\p 7/\p 8/\p 9/\p 10/\p 11/\p 12/\p 13/\p 14/\p 15/\p 16/\p 17/\p 18/\p 19/\p 20/\p 21/\p 22/\p 23/\p 24/\p 25/\p 26/\p 27/\p 28/\p 29/\p 30/\p 31/\p 32/\p 33/\p 34/\p 35/\p 36/\p 37/\p 38/\p 39/\p 40/\p 41/\p 42/\p 43/\p 44/\p 45/\p 46/\p 47/\p 48/\p 49/\p 50): ∀i,i<51->p i:=Af h.1 (eT (p:=fun i=>p (i+1)) h.2)
theorem eX {p:Nat->Prop} (h:p 0/\p 1/\p 2/\p 3/\p 4/\p 5/\p 6/\p 7/\p 8/\p 9/\p 10/\p 11/\p 12/\p 13/\p 14/\p 15/\p 16/\p 17/\p 18/\p 19/\p 20/\p 21/\p 22/\p 23/\p 24/\p 25/\p 26/\p 27/\p 28/\p 29/\p 30/\p 31/\p 32/\p 33/\p 34/\p 35/\p 36/\p 37/\p 38/\p 39/\p 40/\p 41/\p 42/\p 43/\p 44/\p 45/\p 46/\p 47/\p 48/\p 49/\p 50/\p 51): ∀i,i<52->p i:=Af h.1 (eU (p:=fun i=>p (i+1)) h.2)
theorem eY {p:Nat->Prop} (h:p 0/\p 1/\p 2/\p 3/\p 4/\p 5/\p 6/\p 7/\p 8/\p 9/\p 10/\p 11/\p 12/\p 13/\p 14/\p 15/\p 16/\p 17/\p 18/\p 19/\p 20/\p 21/\p 22/\p 23/\p 24/\p 25/\p 26/\p 27/\p 28/\p 29/\p 30/\p 31/\p 32/\p 33/\p 34/\p 35/\p 36/\p 37/\p 38/\p 39/\p 40/\p 41/\p 42/\p 43/\p 44/\p 45/\p 46/\p 47/\p 48/\p 49/\p 50/\p 51/\p 52): ∀i,i<53->p i:=Af h.1 (eX (p:=fun i=>p (i+1)) h.2)
theorem eZ {p:Nat->Prop} (h:p 0/\p 1/\p 2/\p 3/\p 4/\p 5/\p 6/\p 7/\p 8/\p 9/\p 10/\p 11/\p 12/\p 13/\p 14/\p 15/\p 16/\p 17/\p 18/\p 19/\p 20/\p 21/\p 22/\p 23/\p 24/\p 25/\p 26/\p 27/\p 28/\p 29/\p 30/\p 31/\p 32/\p 33/\p 34/\p 35/\p 36/\p 37/\p 38/\p 39/\p 40/\p 41/\p 42/\p 43/\p 44/\p 45/\p 46/\p 47/\p 48/\p 49/\p 50/\p 51/\p 52/\p 53): ∀i,i<54->p i:=Af h.1 (eY (p:=fun i=>p (i+1)) h.2)
theorem eu {p:Nat->Prop} (h:p 0/\p 1/\p 2/\p 3/\p 4/\p 5/\p 6/\p 7/\p 8/\p 9/\p 10/\p 11/\p 12/\p 13/\p 14/\p 15/\p 16/\p 17/\p 18/\p 19/\p 20/\p 21/\p 22/\p 23/\p 24/\p 25/\p 26/\p 27/\p 28/\p 29/\p 30/\p 31/\p 32/\p 33/\p 34/\p 35/\p 36/\p 37/\p 38/\p 39/\p 40/\p 41/\p 42/\p 43/\p 44/\p 45/\p 46/\p 47/\p 48/\p 49/\p 50/\p 51/\p 52/\p 53/\p 54): ∀i,i<55->p i:=Af h.1 (eZ (p:=fun i=>p (i+1)) h.2)
theorem fA {p:Nat->Prop} (h:p 0/\p 1/\p 2/\p 3/\p 4/\p 5/\p 6/\p 7/\p 8/\p 9/\p 10/\p 11/\p 12/\p 13/\p 14/\p 15/\p 16/\p 17/\p 18/\p 19/\p 20/\p 21/\p 22/\p 23/\p 24/\p 25/\p 26/\p 27/\p 28/\p 29/\p 30/\p 31/\p 32/\p 33/\p 34/\p 35/\p 36/\p 37/\p 38/\p 39/\p 40/\p 41/\p 42/\p 43/\p 44/\p 45/\p 46/\p 47/\p 48/\p 49/\p 50/\p 51/\p 52/\p 53/\p 54/\p 55): ∀i,i<56->p i:=Af h.1 (eu (p:=fun i=>p (i+1)) h.2)
theorem fB {p:Nat->Prop} (h:p 0/\p 1/\p 2/\p 3/\p 4/\p 5/\p 6/\p 7/\p 8/\p 9/\p 10/\p 11/\p 12/\p 13/\p 14/\p 15/\p 16/\p 17/\p 18/\p 19/\p 20/\p 21/\p 22/\p 23/\p 24/\p 25/\p 26/\p 27/\p 28/\p 29/\p 30/\p 31/\p 32/\p 33/\p 34/\p 35/\p 36/\p 37/\p 38/\p 39/\p 40/\p 41/\p 42/\p 43/\p 44/\p 45/\p 46/\p 47/\p 48/\p 49/\p 50/\p 51/\p 52/\p 53/\p 54/\p 55/\p 56): ∀i,i<57->p i:=Af h.1 (fA (p:=fun i=>p (i+1)) h.2)
theorem fC {p:Nat->Prop} (h:p 0/\p 1/\p 2/\p 3/\p 4/\p 5/\p 6/\p 7/\p 8/\p 9/\p 10/\p 11/\p 12/\p 13/\p 14/\p 15/\p 16/\p 17/\p 18/\p 19/\p 20/\p 21/\p 22/\p 23/\p 24/\p 25/\p 26/\p 27/\p 28/\p 29/\p 30/\p 31/\p 32/\p 33/\p 34/\p 35/\p 36/\p 37/\p 38/\p 39/\p 40/\p 41/\p 42/\p 43/\p 44/\p 45/\p 46/\p 47/\p 48/\p 49/\p 50/\p 51/\p 52/\p 53/\p 54/\p 55/\p 56/\p 57): ∀i,i<58->p i:=Af h.1 (fB (p:=fun i=>p (i+1)) h.2)
theorem fD {p:Nat->Prop} (h:p 0/\p 1/\p 2/\p 3/\p 4/\p 5/\p 6/\p 7/\p 8/\p 9/\p 10/\p 11/\p 12/\p 13/\p 14/\p 15/\p 16/\p 17/\p 18/\p 19/\p 20/\p 21/\p 22/\p 23/\p 24/\p 25/\p 26/\p 27/\p 28/\p 29/\p 30/\p 31/\p 32/\p 33/\p 34/\p 35/\p 36/\p 37/\p 38/\p 39/\p 40/\p 41/\p 42/\p 43/\p 44/\p 45/\p 46/\p 47/\p 48/\p 49/\p 50/\p 51/\p 52/\p 53/\p 54/\p 55/\p 56/\p 57/\p 58): ∀i,i<59->p i:=Af h.1 (fC (p:=fun i=>p (i+1)) h.2)
theorem fF {p:Nat->Prop} (h:p 0/\p 1/\p 2/\p 3/\p 4/\p 5/\p 6/\p 7/\p 8/\p 9/\p 10/\p 11/\p 12/\p 13/\p 14/\p 15/\p 16/\p 17/\p 18/\p 19/\p 20/\p 21/\p 22/\p 23/\p 24/\p 25/\p 26/\p 27/\p 28/\p 29/\p 30/\p 31/\p 32/\p 33/\p 34/\p 35/\p 36/\p 37/\p 38/\p 39/\p 40/\p 41/\p 42/\p 43/\p 44/\p 45/\p 46/\p 47/\p 48/\p 49/\p 50/\p 51/\p 52/\p 53/\p 54/\p 55/\p 56/\p 57/\p 58/\p 59): ∀i,i<60->p i:=Af h.1 (fD (p:=fun i=>p (i+1)) h.2)
theorem fG {p:Nat->Prop} (h:p 0/\p 1/\p 2/\p 3/\p 4/\p 5/\p 6/\p 7/\p 8/\p 9/\p 10/\p 11/\p 12/\p 13/\p 14/\p 15/\p 16/\p 17/\p 18/\p 19/\p 20/\p 21/\p 22/\p 23/\p 24/\p 25/\p 26/\p 27/\p 28/\p 29/\p 30/\p 31/\p 32/\p 33/\p 34/\p 35/\p 36/\p 37/\p 38/\p 39/\p 40/\p 41/\p 42/\p 43/\p 44/\p 45/\p 46/\p 47/\p 48/\p 49/\p 50/\p 51/\p 52/\p 53/\p 54/\p 55/\p 56/\p 57/\p 58/\p 59/\p 60): ∀i,i<61->p i:=Af h.1 (fF (p:=fun i=>p (i+1)) h.2)
theorem fH {p:Nat->Prop} (h:p 0/\p 1/\p 2/\p 3/\p 4/\p 5/\p 6/\p 7/\p 8/\p 9/\p 10/\p 11/\p 12/\p 13/\p 14/\p 15/\p 16/\p 17/\p 18/\p 19/\p 20/\p 21/\p 22/\p 23/\p 24/\p 25/\p 26/\p 27/\p 28/\p 29/\p 30/\p 31/\p 32/\p 33/\p 34/\p 35/\p 36/\p 37/\p 38/\p 39/\p 40/\p 41/\p 42/\p 43/\p 44/\p 45/\p 46/\p 47/\p 48/\p 49/\p 50/\p 51/\p 52/\p 53/\p 54/\p 55/\p 56/\p 57/\p 58/\p 59/\p 60/\p 61): ∀i,i<62->p i:=Af h.1 (fG (p:=fun i=>p (i+1)) h.2)
theorem fI {p:Nat->Prop} (h:p 0/\p 1/\p 2/\p 3/\p 4/\p 5/\p 6/\p 7/\p 8/\p 9/\p 10/\p 11/\p 12/\p 13/\p 14/\p 15/\p 16/\p 17/\p 18/\p 19/\p 20/\p 21/\p 22/\p 23/\p 24/\p 25/\p 26/\p 27/\p 28/\p 29/\p 30/\p 31/\p 32/\p 33/\p 34/\p 35/\p 36/\p 37/\p 38/\p 39/\p 40/\p 41/\p 42/\p 43/\p 44/\p 45/\p 46/\p 47/\p 48/\p 49/\p 50/\p 51/\p 52/\p 53/\p 54/\p 55/\p 56/\p 57/\p 58/\p 59/\p 60/\p 61/\p 62): ∀i,i<63->p i:=Af h.1 (fH (p:=fun i=>p (i+1)) h.2)
theorem fJ {p:Nat->Prop} (h:p 0/\p 1/\p 2/\p 3/\p 4/\p 5/\p 6/\p 7/\p 8/\p 9/\p 10/\p 11/\p 12/\p 13/\p 14/\p 15/\p 16/\p 17/\p 18/\p 19/\p 20/\p 21/\p 22/\p 23/\p 24/\p 25/\p 26/\p 27/\p 28/\p 29/\p 30/\p 31/\p 32/\p 33/\p 34/\p 35/\p 36/\p 37/\p 38/\p 39/\p 40/\p 41/\p 42/\p 43/\p 44/\p 45/\p 46/\p 47/\p 48/\p 49/\p 50/\p 51/\p 52/\p 53/\p 54/\p 55/\p 56/\p 57/\p 58/\p 59/\p 60/\p 61/\p 62/\p 63): ∀i,i<64->p i:=Af h.1 (fI (p:=fun i=>p (i+1)) h.2)
theorem fK {p:Nat->Prop} (h:p 0/\p 1/\p 2/\p 3/\p 4/\p 5/\p 6/\p 7/\p 8/\p 9/\p 10/\p 11/\p 12/\p 13/\p 14/\p 15/\p 16/\p 17/\p 18/\p 19/\p 20/\p 21/\p 22/\p 23/\p 24/\p 25/\p 26/\p 27/\p 28/\p 29/\p 30/\p 31/\p 32/\p 33/\p 34/\p 35/\p 36/\p 37/\p 38/\p 39/\p 40/\p 41/\p 42/\p 43/\p 44/\p 45/\p 46/\p 47/\p 48/\p 49/\p 50/\p 51/\p 52/\p 53/\p 54/\p 55/\p 56/\p 57/\p 58/\p 59/\p 60/\p 61/\p 62/\p 63/\p 64): ∀i,i<65->p i:=Af h.1 (fJ (p:=fun i=>p (i+1)) h.2)
theorem fM {p:Nat->Prop} (h:p 0/\p 1/\p 2/\p 3/\p 4/\p 5/\p 6/\p 7/\p 8/\p 9/\p 10/\p 11/\p 12/\p 13/\p 14/\p 15/\p 16/\p 17/\p 18/\p 19/\p 20/\p 21/\p 22/\p 23/\p 24/\p 25/\p 26/\p 27/\p 28/\p 29/\p 30/\p 31/\p 32/\p 33/\p 34/\p 35/\p 36/\p 37/\p 38/\p 39/\p 40/\p 41/\p 42/\p 43/\p 44/\p 45/\p 46/\p 47/\p 48/\p 49/\p 50/\p 51/\p 52/\p 53/\p 54/\p 55/\p 56/\p 57/\p 58/\p 59/\p 60/\p 61/\p 62/\p 63/\p 64/\p 65): ∀i,i<66->p i:=Af h.1 (fK (p:=fun i=>p (i+1)) h.2)
theorem fO {p:Nat->Prop} (h:p 0/\p 1/\p 2/\p 3/\p 4/\p 5/\p 6/\p 7/\p 8/\p 9/\p 10/\p 11/\p 12/\p 13/\p 14/\p 15/\p 16/\p 17/\p 18/\p 19/\p 20/\p 21/\p 22/\p 23/\p 24/\p 25/\p 26/\p 27/\p 28/\p 29/\p 30/\p 31/\p 32/\p 33/\p 34/\p 35/\p 36/\p 37/\p 38/\p 39/\p 40/\p 41/\p 42/\p 43/\p 44/\p 45/\p 46/\p 47/\p 48/\p 49/\p 50/\p 51/\p 52/\p 53/\p 54/\p 55/\p 56/\p 57/\p 58/\p 59/\p 60/\p 61/\p 62/\p 63/\p 64/\p 65/\p 66): ∀i,i<67->p i:=Af h.1 (fM (p:=fun i=>p (i+1)) h.2)
end Go.Proofs.YtoaabebgmdbjeaaGreatDoor
namespace Go.Proofs.YtoaabebgmdbjeaaGreatDoor
open Go.RowKit
def Gu (w:World) (g:Nat):Nat->List Value->World
 | _, [] =>w
 | i,v::l=>Gu (w.setCell ⟨g,i,none⟩ v) g (i+1) l
def Px (cs:Array Value):Nat->List Value->Array Value
 | _, [] =>cs
 | i,v::l=>Px (cs.setIfInBounds i v) (i+1) l
theorem Py: ∀(l:List Value) (cs:Array Value) (i:Nat),i+l.length=cs.size->Px cs i l=(cs.toList.take i++l).toArray
 | [],cs,i,h=>by
  have:cs.toList.take i=cs.toList:=List.take_of_length_le (by simp at h;simp;omega)
  rw [this,List.append_nil]
  rfl
 | v::l,cs,i,h=>by
  simp only [List.length_cons] at h
  show Px (cs.setIfInBounds i v) (i+1) l=_
  rw [Py l _ (i+1) (by rw [Array.size_setIfInBounds];omega)]
  have hi:i<cs.toList.length:=by simp;omega
  rw [Array.toList_setIfInBounds,List.take_set,List.take_succ_eq_append_getElem hi,List.set_append,if_neg (by simp;omega),List.length_take,show i-min i cs.toList.length=0 by omega,List.set_cons_zero,List.append_assoc]
  rfl
section
variable {w:World} {g g':Nat} {T:TypeId} {cs:Array Value}
theorem KA: ∀(l:List Value) (w:World) (cs:Array Value) (i:Nat),Box w g T cs->Box (Gu w g i l) g T (Px cs i l)
 | [],w,cs,i,h=>h
 | v::l,w,cs,i,h=>KA l _ _ (i+1) (h.set i v)
theorem Jd {ds:Array Value} (h:Box w g T cs) (hs:cs.size=ds.size):Box (Gu w g 0 ds.toList) g T ds:=by
 have:=KA ds.toList w cs 0 h
 rw [Py _ _ _ (by simp;omega)] at this
 simpa using this
theorem Je (h:Box w g T cs) (hne:g≠g'): ∀(i:Nat) (l:List Value),Box (Gu w g' i l) g T cs:=by
 intro i l
 induction l generalizing w i with
 | nil=>exact h
 | cons v l ih=>exact ih (h.far (p:=⟨g',i,none⟩) hne v) (i+1)
theorem KC (w:World) (g:Nat): ∀(i:Nat) (l:List Value),Kept [some g] w (Gu w g i l):=by
 intro i l
 induction l generalizing w i with
 | nil=>exact Kept.refl _ w
 | cons v l ih=>exact((Kept.refl [some g] w).setCell (p:=⟨g,i,none⟩) (From.mem (by simp)) v).trans (ih _ (i+1)) (fun x hx=>From.mem hx)
end
abbrev DJ:=List (Nat × Nat × Nat × Nat × Nat)
def Br (sh:DJ) (j:Nat):Nat:=(sh.getD j (0,0,0,0,0)).1
def Gv (sh:DJ) (j:Nat):Nat:=(sh.getD j (0,0,0,0,0)).2.1
def II (sh:DJ) (j:Nat):Nat:=(sh.getD j (0,0,0,0,0)).2.2.1
def IJ (sh:DJ) (j:Nat):Nat:=(sh.getD j (0,0,0,0,0)).2.2.2.1
def gsz (sh:DJ) (j:Nat):Nat:=(sh.getD j (0,0,0,0,0)).2.2.2.2
def Stored (sh:DJ) (T:TypeId):Prop:= ∃j,(Br sh j=3\/Br sh j=4)/\IJ sh j=T
def FE (ops:Array Oper) (i j:Nat):Bool:=((ops[i]?).map fun o=>o.after.any fun e=>Region.binds .any e&&e.on==j).getD false
def Gw (sh:DJ) (ops:Array Oper):Bool:=sh.length==ops.size&&(List.range ops.size).all fun j=>
 (!(Br sh j==3)||(FE ops j (Gv sh j)&&FE ops j (II sh j)&&Br sh (Gv sh j)==2&&IJ sh (Gv sh j)==IJ sh j&&gsz sh (Gv sh j)==gsz sh j&&Nat.blt (II sh j) ops.size&&(List.range j).all fun i=> !(Br sh i==3&&Gv sh i==Gv sh j)))&&
 (!(Br sh j==4)||(FE ops j (II sh j)&&Nat.blt (II sh j) ops.size))
def Rh (w0:World) (sh:DJ) (vals:Nat->Value) (pr:Nat->Value->World->Prop) (gs:Nat->Nat) (j:Nat) (u:Nat->Value) (w:World):Prop:=
 (Br sh j=0->u j=vals j)/\
 (Br sh j=1->pr j (u j) w)/\
 (Br sh j=2-> ∃g cs,u j=.pointer (some ⟨g,0,none⟩)/\w0.heap.size<=g/\Box w g (IJ sh j) cs/\cs.size=gsz sh j)/\
 (Br sh j=3-> ∃g cs,u (Gv sh j)=.pointer (some ⟨g,0,none⟩)/\u (II sh j)=.agg cs/\Box w g (IJ sh j) cs)/\
 (Br sh j=4-> ∃cs,u (II sh j)=.agg cs/\Box w (gs j) (IJ sh j) cs)
structure GJ (ops:Array Oper) (S:List (Option Nat)) (w0:World) (olds:Nat->Array Value) (sh:DJ) (vals:Nat->Value) (pr:Nat->Value->World->Prop) (gs:Nat->Nat) (L:Nat->Bool) (u:Nat->Value) (w:World):Prop where
 kept:Kept S w0 w
 old: ∀j,Br sh j=4->L j=false->Box w (gs j) (IJ sh j) (olds j)
 dist: ∀i j,Br sh i=2->Br sh j=2->L i=true->L j=true->i≠j->u i≠u j
 all: ∀j,j<ops.size->L j=true->Rh w0 sh vals pr gs j u w
structure GS (ops:Array Oper) (S:List (Option Nat)) (w0:World) (olds:Nat->Array Value) (sh:DJ) (pr:Nat->Value->World->Prop) (gs:Nat->Nat):Prop where
 shape:Gw sh ops=true
 inS: ∀j,Br sh j=4->some (gs j)∈S/\gs j<w0.heap.size/\(olds j).size=gsz sh j
 low1: ∀j,Br sh j=1-> ∀v w w',pr j v w->Below w.heap.size w w'->pr j v w'
 oV: ∀j,Br sh j=1-> ∀v w w' g T cs,pr j v w->Box w g T cs->Stored sh T->Kept [some g] w w'->pr j v w'
 ne4: ∀i j,Br sh i=4->Br sh j=4->i≠j->gs i≠gs j
section
variable {ops:Array Oper} {S:List (Option Nat)} {w0:World} {olds:Nat->Array Value} {sh:DJ} {vals:Nat->Value} {pr:Nat->Value->World->Prop} {gs:Nat->Nat}
theorem Et (hs:GS ops S w0 olds sh pr gs) {j:Nat} (h:Br sh j≠0):j<ops.size:=by
 have hl:=hs.shape
 unfold Gw at hl
 simp only [Bool.and_eq_true,beq_iff_eq] at hl
 rcases Nat.lt_or_ge j ops.size with h1 | h1
 ·exact h1
 ·exfalso
  apply h
  unfold Br
  rw [List.getD_eq_getElem?_getD,List.getElem?_eq_none (by omega)]
  rfl
theorem Ik (hs:GS ops S w0 olds sh pr gs) {j:Nat} (h:Br sh j=3):FE ops j (Gv sh j)=true/\FE ops j (II sh j)=true/\Br sh (Gv sh j)=2/\IJ sh (Gv sh j)=IJ sh j/\gsz sh (Gv sh j)=gsz sh j/\II sh j<ops.size/\ ∀i,i<j->Br sh i=3->Gv sh i≠Gv sh j:=by
 have hj:=Et hs (j:=j) (by omega)
 have hl:=hs.shape
 unfold Gw at hl
 simp only [Bool.and_eq_true] at hl
 have:=List.all_eq_true.1 hl.2 j (by simpa using hj)
 simp only [Bool.and_eq_true,Bool.or_eq_true,Bool.not_eq_true',beq_eq_false_iff_ne,beq_iff_eq,Nat.blt_eq] at this
 rcases this.1 with h1 | ⟨⟨⟨⟨⟨⟨h1,h2⟩,h3⟩,h4⟩,h5⟩,h7⟩,h6⟩
 ·exact absurd h h1
 ·refine⟨h1,h2,h3,h4,h5,h7,fun i hi hk e=>?_⟩
  have:=List.all_eq_true.1 h6 i (by simpa using hi)
  simp [hk,e] at this
theorem K8 (hs:GS ops S w0 olds sh pr gs) {j:Nat} (h:Br sh j=4):FE ops j (II sh j)=true/\II sh j<ops.size:=by
 have hj:=Et hs (j:=j) (by omega)
 have hl:=hs.shape
 unfold Gw at hl
 simp only [Bool.and_eq_true] at hl
 have:=List.all_eq_true.1 hl.2 j (by simpa using hj)
 simp only [Bool.and_eq_true,Bool.or_eq_true,Bool.not_eq_true',beq_eq_false_iff_ne,beq_iff_eq,Nat.blt_eq] at this
 rcases this.2 with h1 | ⟨h1,h2⟩
 ·exact absurd h h1
 ·exact⟨h1,h2⟩
theorem Jf {L:Nat->Bool} (hcl:Closed ops L) {i j:Nat} (h:L i=true) (hd:FE ops i j=true):L j=true:=by
 refine AZ (ops:=ops) (i:=i) (fun o ho e he hb=>hcl i h o ho e he hb) j hd
variable {L:Nat->Bool} {u:Nat->Value} {w w':World}
theorem GJ.same {u':Nat->Value} (hs:GS ops S w0 olds sh pr gs) (h:GJ ops S w0 olds sh vals pr gs L u w) (he: ∀j,j<ops.size->u j=u' j):GJ ops S w0 olds sh vals pr gs L u' w:=by
 refine⟨h.kept,h.old,fun i j hi hj li lj hne=>by rw [<- he i (Et hs (by omega)), <- he j (Et hs (by omega))];exact h.dist i j hi hj li lj hne,fun j hl hj=>?_⟩
 obtain⟨a,b,c,d,e⟩:=h.all j hl hj
 refine⟨fun k=>by rw [<- he j hl];exact a k,fun k=>by rw [<- he j hl];exact b k,fun k=>by rw [<- he j hl];exact c k,fun k=>?_,fun k=>?_⟩
 ·obtain⟨_,_,s3,_,_,s6,_⟩:=Ik hs k
  rw [<- he _ (Et hs (j:=Gv sh j) (by omega)), <- he _ s6]
  exact d k
 ·rw [<- he _ (K8 hs k).2]
  exact e k
theorem GJ.low (hs:GS ops S w0 olds sh pr gs) (h:GJ ops S w0 olds sh vals pr gs L u w) (hcl:Closed ops L) {i:Nat} (hL:L i=false) (b:Below w.heap.size w w') (v:Value) (hk4:Br sh i≠4)
  (hd2:Br sh i=2-> ∀j,Br sh j=2->L j=true->u j≠v) (hi:Rh w0 sh vals pr gs i (upd u i v) w'):GJ ops S w0 olds sh vals pr gs (mark L i) (upd u i v) w':=by
 have hu: ∀j,L j=true->upd u i v j=u j:=fun j hj=>FC (fun e=>by rw [e,hL] at hj;cases hj)
 have hm: ∀j,mark L i j=true->j=i\/L j=true:=fun j hj=>by
  by_cases e:j=i
  ·exact .inl e
  ·rw [Eh e] at hj;exact .inr hj
 refine⟨h.kept.below b,fun j hk hj=>?_,fun a c ha hc la lc hne=>?_,fun j hl hj=>?_⟩
 ·have hj':L j=false:=by
   by_cases e:j=i
   ·rw [e,Gt] at hj;cases hj
   ·rwa [Eh e] at hj
  have hb:=h.old j hk hj'
  exact hb.below b hb.lt
 ·rcases hm a la with rfl | la'
  ·rcases hm c lc with rfl | lc'
   ·exact absurd rfl hne
   ·rw [EZ,hu c lc']
    exact fun e=>hd2 ha c hc lc' e.symm
  ·rcases hm c lc with rfl | lc'
   ·rw [EZ,hu a la']
    exact hd2 hc a ha la'
   ·rw [hu a la',hu c lc']
    exact h.dist a c ha hc la' lc' hne
 ·rcases hm j hj with rfl | hj'
  ·exact hi
  ·obtain⟨a,c,d,e,f⟩:=h.all j hl hj'
   refine⟨fun k=>by rw [hu j hj'];exact a k,fun k=>by rw [hu j hj'];exact hs.low1 j k _ _ _ (c k) b,fun k=>?_,fun k=>?_,fun k=>?_⟩
   ·obtain⟨g,cs,k1,k2,k3,k4⟩:=d k
    exact⟨g,cs,by rw [hu j hj'];exact k1,k2,k3.below b k3.lt,k4⟩
   ·obtain⟨g,cs,k1,k2,k3⟩:=e k
    obtain⟨s1,s2,_⟩:=Ik hs k
    exact⟨g,cs,by rw [hu _ (Jf hcl hj' s1)];exact k1,by rw [hu _ (Jf hcl hj' s2)];exact k2,k3.below b k3.lt⟩
   ·obtain⟨cs,k1,k2⟩:=f k
    exact⟨cs,by rw [hu _ (Jf hcl hj' (K8 hs k).1)];exact k1,k2.below b k2.lt⟩
theorem GJ.val (hs:GS ops S w0 olds sh pr gs) (h:GJ ops S w0 olds sh vals pr gs L u w) (hcl:Closed ops L) {i:Nat} (hL:L i=false) (hk:Br sh i=0) (b:Below w.heap.size w w') (v:Value) (hv:vals i=v):GJ ops S w0 olds sh vals pr gs (mark L i) (upd u i v) w':=
 h.low hs hcl hL b v (by omega) (fun e=>by omega) ⟨fun _=>by rw [EZ,hv],fun e=>by omega,fun e=>by omega,fun e=>by omega,fun e=>by omega⟩
theorem GJ.pred (hs:GS ops S w0 olds sh pr gs) (h:GJ ops S w0 olds sh vals pr gs L u w) (hcl:Closed ops L) {i:Nat} (hL:L i=false) (hk:Br sh i=1) (b:Below w.heap.size w w') (v:Value) (hv:pr i v w'):GJ ops S w0 olds sh vals pr gs (mark L i) (upd u i v) w':=
 h.low hs hcl hL b v (by omega) (fun e=>by omega) ⟨fun e=>by omega,fun _=>by rw [EZ];exact hv,fun e=>by omega,fun e=>by omega,fun e=>by omega⟩
theorem GJ.box (hs:GS ops S w0 olds sh pr gs) (h:GJ ops S w0 olds sh vals pr gs L u w) (hcl:Closed ops L) {i:Nat} (hL:L i=false) (hk:Br sh i=2) (T:TypeId) (hT:IJ sh i=T) (cs:Array Value) (hcs:cs.size=gsz sh i):GJ ops S w0 olds sh vals pr gs (mark L i) (upd u i (.pointer (some ⟨w.heap.size,0,none⟩))) (w.alloc (.cells cs T)):=by
 subst hT
 refine h.low hs hcl hL ((Below.refl _ _).alloc (Nat.le_refl _) _) _ (by omega) (fun _ j hj lj e=>?_) ⟨fun e=>by omega,fun e=>by omega,fun _=>⟨_,_,EZ,h.kept.size,Box.new w _ _,hcs⟩,fun e=>by omega,fun e=>by omega⟩
 obtain⟨g,cs,k1,k2,k3,k4⟩:=(h.all j (Et hs (by omega)) lj).2.2.1 hj
 rw [k1] at e
 cases e
 exact absurd k3.lt (Nat.lt_irrefl _)
theorem GJ.hit (hs:GS ops S w0 olds sh pr gs) (h:GJ ops S w0 olds sh vals pr gs L u w) (hcl:Closed ops L) {i g:Nat} {T:TypeId} {cs:Array Value} (hL:L i=false) (hb:Box w g T cs) (hsz:cs.size=gsz sh i) (hT:IJ sh i=T) (ds:Array Value) (hds:ds.size=gsz sh i) (hk:Br sh i=3\/Br sh i=4)
  (hS:From w0 S (some g)) (h4: ∀j,j≠i->Br sh j=4->gs j≠g) (h3: ∀j,j≠i->Br sh j=3->L j=true-> ∀g',u (Gv sh j)=.pointer (some ⟨g',0,none⟩)->g'≠g) (hi:Rh w0 sh vals pr gs i (upd u i undef) (Gu w g 0 ds.toList)):
  GJ ops S w0 olds sh vals pr gs (mark L i) (upd u i undef) (Gu w g 0 ds.toList):=by
 have hu: ∀j,L j=true->upd u i undef j=u j:=fun j hj=>FC (fun e=>by rw [e,hL] at hj;cases hj)
 have hm: ∀j,mark L i j=true->j=i\/L j=true:=fun j hj=>by
  by_cases e:j=i
  ·exact .inl e
  ·rw [Eh e] at hj;exact .inr hj
 have hk2:=KC w g 0 ds.toList
 refine⟨h.kept.trans hk2 (by simpa using hS),fun j hk hj=>?_,fun a c ha hc la lc hne=>?_,fun j hl hj=>?_⟩
 ·by_cases e:j=i
  ·rw [e,Gt] at hj;cases hj
  ·rw [Eh e] at hj
   exact Je (h.old j hk hj) (h4 j e hk) 0 ds.toList
 ·rcases hm a la with rfl | la'
  ·omega
  ·rcases hm c lc with rfl | lc'
   ·omega
   ·rw [hu a la',hu c lc']
    exact h.dist a c ha hc la' lc' hne
 ·rcases hm j hj with rfl | hj'
  ·exact hi
  ·have hji:j≠i:=fun e=>by rw [e,hL] at hj';cases hj'
   obtain⟨a,c,d,e,f⟩:=h.all j hl hj'
   refine⟨fun k=>by rw [hu j hj'];exact a k,fun k=>by rw [hu j hj'];exact hs.oV j k _ _ _ _ _ _ (c k) hb ⟨i,hk,hT⟩ hk2,fun k=>?_,fun k=>?_,fun k=>?_⟩
   ·obtain⟨g',cs',k1,k2,k3,k4⟩:=d k
    by_cases eg:g'=g
    ·subst eg
     have e2:cs'.size=ds.size:=by
      have:=hb
      unfold Box at this k3
      rw [this] at k3
      simp only [Option.some.injEq,Obj.cells.injEq] at k3
      rw [<- k3.1,hsz,hds]
     exact⟨g',ds,by rw [hu j hj'];exact k1,k2,Jd k3 e2,e2▸k4⟩
    ·exact⟨g',cs',by rw [hu j hj'];exact k1,k2,Je k3 eg 0 ds.toList,k4⟩
   ·obtain⟨g',cs',k1,k2,k3⟩:=e k
    obtain⟨s1,s2,_⟩:=Ik hs k
    exact⟨g',cs',by rw [hu _ (Jf hcl hj' s1)];exact k1,by rw [hu _ (Jf hcl hj' s2)];exact k2,Je k3 (h3 j hji k hj' g' k1) 0 ds.toList⟩
   ·obtain⟨cs',k1,k2⟩:=f k
    exact⟨cs',by rw [hu _ (Jf hcl hj' (K8 hs k).1)];exact k1,Je k2 (h4 j hji k) 0 ds.toList⟩
theorem GJ.put (hs:GS ops S w0 olds sh pr gs) (h:GJ ops S w0 olds sh vals pr gs L u w) (hcl:Closed ops L) {i g:Nat} (hL:L i=false) (hk:Br sh i=3) (la:L (Gv sh i)=true) (lv:L (II sh i)=true) (hg:u (Gv sh i)=.pointer (some ⟨g,0,none⟩)) {ds:Array Value} (hds:ds.size=gsz sh i) (hv:u (II sh i)=.agg ds):
  GJ ops S w0 olds sh vals pr gs (mark L i) (upd u i undef) (Gu w g 0 ds.toList):=by
 obtain⟨s1,s2,s3,s4,s5,_,s6⟩:=Ik hs hk
 obtain⟨g',cs,k1,k2,k3,k4⟩:=(h.all _ (Et hs (by omega)) la).2.2.1 s3
 rw [hg] at k1
 cases k1
 rw [s4] at k3
 have hna:Gv sh i≠i:=fun e=>by rw [e,hL] at la;cases la
 have hnv:II sh i≠i:=fun e=>by rw [e,hL] at lv;cases lv
 refine h.hit hs hcl hL k3 (k4.trans s5) rfl ds hds (.inl hk) (fun b e=>by cases e;exact .inr k2) (fun j _ hj e=>?_) (fun j hne hj lj g' hg' e=>?_) ⟨fun e=>by omega,fun e=>by omega,fun e=>by omega,fun _=>⟨g,ds,by rw [FC hna];exact hg,by rw [FC hnv];exact hv,Jd k3 (by rw [k4,s5,hds])⟩,fun e=>by omega⟩
 ·have:=(hs.inS j hj).2.1
  omega
 ·subst e
  obtain⟨t1,t2,t3,t4,t5,_,t6⟩:=Ik hs hj
  have hd:Gv sh j≠Gv sh i:=by
   rcases Nat.lt_or_gt_of_ne hne with hlt | hlt
   ·exact s6 j hlt hj
   ·exact fun e=>t6 i hlt hk e.symm
  exact h.dist _ _ t3 s3 (Jf hcl lj t1) la hd (hg'.trans hg.symm)
theorem GJ.set (hs:GS ops S w0 olds sh pr gs) (h:GJ ops S w0 olds sh vals pr gs L u w) (hcl:Closed ops L) {i:Nat} (hL:L i=false) (hk:Br sh i=4) (lv:L (II sh i)=true) {ds:Array Value} (hds:ds.size=gsz sh i) (hv:u (II sh i)=.agg ds):
  GJ ops S w0 olds sh vals pr gs (mark L i) (upd u i undef) (Gu w (gs i) 0 ds.toList):=by
 obtain⟨s1,_⟩:=K8 hs hk
 obtain⟨a1,a2,a3⟩:=hs.inS i hk
 have hb:=h.old i hk hL
 have hnv:II sh i≠i:=fun e=>by rw [e,hL] at lv;cases lv
 refine h.hit hs hcl hL hb a3 rfl ds hds (.inr hk) (From.mem a1) (fun j hne hj=>hs.ne4 j i hj hk hne) (fun j hne hj lj g' hg' e=>?_) ⟨fun e=>by omega,fun e=>by omega,fun e=>by omega,fun e=>by omega,fun _=>⟨ds,by rw [FC hnv];exact hv,Jd hb (by rw [a3,hds])⟩⟩
 subst e
 obtain⟨t1,t2,t3,_⟩:=Ik hs hj
 obtain⟨g,cs,k1,k2,_⟩:=(h.all _ (Et hs (by omega)) (Jf hcl lj t1)).2.2.1 t3
 rw [hg'] at k1
 cases k1
 omega
theorem GJ.valOf (h:GJ ops S w0 olds sh vals pr gs L u w) {j:Nat} (hl:j<ops.size) (hj:L j=true) (hk:Br sh j=0) {v:Value} (hv:vals j=v):u j=v:=((h.all j hl hj).1 hk).trans hv
theorem GJ.Cy (h:GJ ops S w0 olds sh vals pr gs L u w) {j:Nat} (hl:j<ops.size) (hj:L j=true) (hk:Br sh j=1):pr j (u j) w:=(h.all j hl hj).2.1 hk
theorem GJ.jv (h:GJ ops S w0 olds sh vals pr gs L u w) {j:Nat} (hl:j<ops.size) (hj:L j=true) (hk:Br sh j=2): ∃g cs,u j=.pointer (some ⟨g,0,none⟩)/\w0.heap.size<=g/\Box w g (IJ sh j) cs/\cs.size=gsz sh j:=(h.all j hl hj).2.2.1 hk
theorem GJ.Ah (h:GJ ops S w0 olds sh vals pr gs L u w) {g:Nat} {T:TypeId} {cs:Array Value} (hb:Box w0 g T cs) (hn:some g∉S):Box w g T cs:=hb.kept h.kept hn
theorem GJ.start (hb: ∀j,Br sh j=4->Box w0 (gs j) (IJ sh j) (olds j)) (u:Nat->Value):GJ ops S w0 olds sh vals pr gs (fun _=>false) u {w0 with drawn:=w0.drawn+1}:=
 ⟨(Kept.refl S w0).drew,fun j hk _=>hb j hk,(fun i j _ _ li=>by cases li),(fun j _ hj=>by cases hj)⟩
end
def tys (sh:DJ):List TypeId:=sh.filterMap fun x=>if x.1==3||x.1==4 then some x.2.2.2.1 else none
theorem Lb {sh:DJ} {T:TypeId} (h:Stored sh T):T∈tys sh:=by
 obtain⟨j,hk,ht⟩:=h
 unfold Br at hk
 unfold IJ at ht
 rw [List.getD_eq_getElem?_getD] at hk ht
 rcases Nat.lt_or_ge j sh.length with hl | hl
 ·rw [List.getElem?_eq_getElem hl] at hk ht
  simp only [Option.getD_some] at hk ht
  unfold tys
  rw [List.mem_filterMap]
  refine⟨sh[j],List.getElem_mem hl,?_⟩
  rw [if_pos (by rcases hk with hk | hk<;>simp [hk]),ht]
 ·rw [List.getElem?_eq_none hl] at hk
  simp at hk
def FZ (Ts:List TypeId) (p:Value->World->Prop):Prop:=(∀v w w',p v w->Below w.heap.size w w'->p v w')/\(∀v w w' g T cs,p v w->Box w g T cs->T∈Ts->Kept [some g] w w'->p v w')
abbrev Spec:=List (Option (Value->World->Prop))
def Aj (Ts:List TypeId) (sp:Spec):Prop:= ∀j p,sp.getD j none=some p->FZ Ts p
theorem Aj.nil (Ts:List TypeId):Aj Ts [] :=fun j p h=>by simp at h
theorem Aj.none_ {Ts:List TypeId} {l:Spec} (h:Aj Ts l):Aj Ts (none::l)
 | 0,p,e=>by simp at e
 | j+1,p,e=>h j p (by simpa using e)
theorem Aj.some_ {Ts:List TypeId} {l:Spec} {q:Value->World->Prop} (hq:FZ Ts q) (h:Aj Ts l):Aj Ts (some q::l)
 | 0,p,e=>by
  have:q=p:=by simpa using e
  exact this▸hq
 | j+1,p,e=>h j p (by simpa using e)
def Iu (sp:Spec) (j:Nat) (v:Value) (w:World):Prop:=match sp.getD j none with
 | some p=>p v w
 | none=>True
def VT (T:TypeId) (n:Nat) (cs:Array Value) (v:Value) (w:World):Prop:= ∃g,v=.slice (some ⟨g,0,none⟩) n n/\Box w g T cs
theorem VT.stays {Ts:List TypeId} {T:TypeId} {n:Nat} {cs:Array Value} (h:Ts.all (fun x=>x !=T)=true):FZ Ts (VT T n cs):=
 ⟨fun v w w' ⟨g,h1,h2⟩ hb=>⟨g,h1,h2.below hb h2.lt⟩,fun v w w' g' T' cs' ⟨g,h1,h2⟩ hb hT hk=>⟨g,h1,h2.kept hk (fun hm=>by
  have e:g=g':=by simpa using hm
  subst e
  unfold Box at h2 hb
  rw [hb] at h2
  simp only [Option.some.injEq,Obj.cells.injEq] at h2
  have:=List.all_eq_true.1 h _ hT
  simp [h2.2.1] at this)⟩⟩
def oW (T:TypeId) (n:Nat) (xs:List Value) (v:Value) (w:World):Prop:=w.ownsRow 0 T 1 v n xs
theorem oW.stays {Ts:List TypeId} {T:TypeId} {n:Nat} {xs:List Value} (h:Ts.all (fun x=>x !=T)=true):FZ Ts (oW T n xs):=
 ⟨fun v w w' h1 hb=>own_below h1 hb,fun v w w' g' T' cs' h1 hb hT hk=>BH h1 hk (fun b hb' hm=>Aa h1 hb (fun e=>by
  have:=List.all_eq_true.1 h _ hT
  simp [e] at this) (by simp at hm;rw [hb',hm]))⟩
def oZ (T:TypeId) (n:Nat) (xs:List Value) (v:Value) (w:World):Prop:= ∃A c,v=.slice A n c/\w.ownsRow 0 T 1 (.slice A n c) n xs
theorem oZ.stays {Ts:List TypeId} {T:TypeId} {n:Nat} {xs:List Value} (h:Ts.all (fun x=>x !=T)=true):FZ Ts (oZ T n xs):=
 ⟨fun v w w' ⟨A,c,h1,h2⟩ hb=>⟨A,c,h1,own_below h2 hb⟩,fun v w w' g' T' cs' ⟨A,c,h1,h2⟩ hb hT hk=>⟨A,c,h1,BH h2 hk (fun b hb' hm=>Aa h2 hb (fun e=>by
  have:=List.all_eq_true.1 h _ hT
  simp [e] at this) (by simp at hm;rw [hb',hm]))⟩⟩
def jw (T:TypeId) (cs:Array Value) (i:Nat) (v:Value) (w:World):Prop:= ∃g,v=.pointer (some ⟨g,i,none⟩)/\Box w g T cs
theorem jw.stays {Ts:List TypeId} {T:TypeId} {i:Nat} {cs:Array Value} (h:Ts.all (fun x=>x !=T)=true):FZ Ts (jw T cs i):=by
 have hs:=VT.stays (Ts:=Ts) (T:=T) (n:=0) (cs:=cs) h
 refine⟨fun v w w' ⟨g,h1,h2⟩ hb=>⟨g,h1,h2.below hb h2.lt⟩,fun v w w' g' T' cs' ⟨g,h1,h2⟩ hb hT hk=>?_⟩
 obtain⟨g2,e,hx⟩:=hs.2 (.slice (some ⟨g,0,none⟩) 0 0) w w' g' T' cs' ⟨g,rfl,h2⟩ hb hT hk
 cases e
 exact⟨g,h1,hx⟩
theorem EI {P:Program} {Q:Exit->Act->World->Prop} {ops:Array Oper} {id n:Nat} {a0:Act} {w0:World} (S:List (Option Nat)) (olds:Nat->Array Value) (sh:DJ) (vals:Nat->Value) (sp:Spec) (gs:Nat->Nat)
  (hm:P.follows .mixedOrders=true) (hd:LZ ops=true) (hs:GI ops n=true) (hn:a0.tmps.size=n) (hsh:Gw sh ops=true)
  (hin: ∀j,Br sh j=4->some (gs j)∈S/\(olds j).size=gsz sh j/\Box w0 (gs j) (IJ sh j) (olds j)) (hne: ∀i j,Br sh i=4->Br sh j=4->i≠j->gs i≠gs j) (hsp:Aj (tys sh) sp)
  (hstep:GS ops S w0 olds sh (Iu sp) gs-> ∀i,i<ops.size-> ∀L a w,L i=false->EH ops a0 a->a.tmps.size=n->GJ ops S w0 olds sh vals (Iu sp) gs L (fun j=>valOf ops j a) w->(∀o,ops[i]? =some o-> ∀e∈o.after,Region.binds .any e=true->L e.on=true)->Closed ops L->
   Step P ops Q (GJ ops S w0 olds sh vals (Iu sp) gs) L a w i)
  (hdone: ∀(u:Nat->Value) w,GJ ops S w0 olds sh vals (Iu sp) gs (fun _=>true) u w->Q .normal (Az ops u ops.size a0) w):(Code.region id ops true).wp P Q a0 w0:=by
 have hGS:GS ops S w0 olds sh (Iu sp) gs:=by
  refine⟨hsh,fun j hk=>⟨(hin j hk).1,(hin j hk).2.2.lt,(hin j hk).2.1⟩,fun j _ v w w' h b=>?_,fun j _ v w w' g T cs h hb hT hk=>?_,hne⟩
  ·unfold Iu at h⊢
   cases hsj:sp.getD j none with
   | none=>trivial
   | some p=>rw [hsj] at h;exact(hsp j p hsj).1 v w w' h b
  ·unfold Iu at h⊢
   cases hsj:sp.getD j none with
   | none=>trivial
   | some p=>rw [hsj] at h;exact(hsp j p hsj).2 v w w' g T cs h hb (Lb hT) hk
 refine DF (GJ ops S w0 olds sh vals (Iu sp) gs) hm hd hs hn (fun L u u' w h hj=>hj.same hGS h) (hstep hGS) ?_ (GJ.start (fun j hk=>(hin j hk).2.2) _)
 intro L a w hsame _ hJ hall
 obtain⟨u,hu,ha⟩:=EY hsame
 rw [ha]
 refine hdone u w ⟨hJ.kept,fun j hk h=>(by cases h),fun i j hi hj _ _ hne=>?_,fun j hj _=>?_⟩
 ·rw [hu i,hu j]
  exact hJ.dist i j hi hj (hall i (Et hGS (by omega))) (hall j (Et hGS (by omega))) hne
 ·have h:=(hJ.same hGS (u':=u) (fun j _=>(hu j).symm)).all j hj (hall j hj)
  exact h
theorem Dt {p:Nat->Prop} {sh:DJ} (h:sh.all (fun x=>x.1 !=4)=true): ∀j,Br sh j=4->p j:=fun j hj=>by
 exfalso
 unfold Br at hj
 rw [List.getD_eq_getElem?_getD] at hj
 rcases Nat.lt_or_ge j sh.length with hl | hl
 ·rw [List.getElem?_eq_getElem hl] at hj
  have:=List.all_eq_true.1 h _ (List.getElem_mem hl)
  simp only [Option.getD_some] at hj
  simp [hj] at this
 ·rw [List.getElem?_eq_none hl] at hj
  cases hj
theorem VU {ops:Array Oper} {L:Nat->Bool} (hcl:Closed ops L) {i j:Nat} (hL:L i=false) (hd:FE ops j i=true):L j=false:=by
 cases h:L j with
 | false=>rfl
 | true=>rw [Jf hcl h hd] at hL;cases hL
theorem GJ.Pz {ops:Array Oper} {S:List (Option Nat)} {w0 w:World} {olds:Nat->Array Value} {sh:DJ} {vals:Nat->Value} {pr:Nat->Value->World->Prop} {gs:Nat->Nat} {u:Nat->Value} (h:GJ ops S w0 olds sh vals pr gs (fun _=>true) u w) {j:Nat} (hl:j<ops.size) (hk:Br sh j=0) {v:Value} (hv:vals j=v):u j=v:=((h.all j hl rfl).1 hk).trans hv
theorem GJ.fin4 {ops:Array Oper} {S:List (Option Nat)} {w0 w:World} {olds:Nat->Array Value} {sh:DJ} {vals:Nat->Value} {pr:Nat->Value->World->Prop} {gs:Nat->Nat} {u:Nat->Value} (h:GJ ops S w0 olds sh vals pr gs (fun _=>true) u w) {j v:Nat} (hl:j<ops.size) (hk:Br sh j=4) (hv:II sh j=v) (hlv:v<ops.size) (hkv:Br sh v=0) {cs:Array Value} (hcs:vals v=.agg cs):Box w (gs j) (IJ sh j) cs:=by
 obtain⟨ds,h2,h3⟩:=(h.all j hl rfl).2.2.2.2 hk
 rw [hv,h.Pz hlv hkv hcs] at h2
 cases h2
 exact h3
section
variable {P:Program} {ops:Array Oper} {Q:Exit->Act->World->Prop} {J:(Nat->Bool)->(Nat->Value)->World->Prop} {L:Nat->Bool} {a:Act} {w:World} {i:Nat}
theorem CY {o:Oper} {g:Nat} {b c:Bool} (h:o.guard=some (g,b)) (hv:valOf ops g a=.bool c) (hne:c≠b):Region.wanted o (yielded ops a.tmps)=false:=by
 have:yielded ops a.tmps g=some c:=by
  unfold yielded
  unfold valOf at hv
  cases hd:Bp ops g with
  | none=>simp [hd] at hv;cases hv
  | some d=>
   rw [hd] at hv
   have hd':(ops[g]?).bind (·.dst)=some d:=hd
   rw [hd']
   simp only [Option.bind_some,Array.getD_eq_getD_getElem?] at hv⊢
   cases hx:a.tmps[d]? with
   | none=>rw [hx] at hv;simp at hv;cases hv
   | some x=>rw [hx] at hv;simp at hv;subst hv;rfl
 simp [Region.wanted,h,this,hne]
theorem GStep.pass (o:Oper) (ho:ops[i]? =some o) (hw:Region.wanted o (yielded ops a.tmps)=false) (hj:J (mark L i) (upd (fun j=>valOf ops j a) i undef) w):Step P ops Q J L a w i:=by
 unfold Step wpOp
 simp only [ho,hw]
 exact⟨o,undef,rfl,fun _=>rfl,rfl,hj⟩
end
theorem YJ {sh:DJ} {k:Nat} (h:(List.range sh.length).all (fun j=>Br sh j !=4||j==k)=true): ∀j,Br sh j=4->j=k:=fun j hj=>by
 rcases Nat.lt_or_ge j sh.length with hl | hl
 ·have:=List.all_eq_true.1 h j (by simpa using hl)
  simpa [hj] using this
 ·exfalso
  unfold Br at hj
  rw [List.getD_eq_getElem?_getD,List.getElem?_eq_none hl] at hj
  cases hj
theorem ko {p:Nat->Prop} {sh:DJ} {k:Nat} (h:(List.range sh.length).all (fun j=>Br sh j !=4||j==k)=true) (hp:p k): ∀j,Br sh j=4->p j:=fun j hj=>by
 rw [YJ h j hj]
 exact hp
theorem fQ {p:Nat->Nat->Prop} {sh:DJ} {k:Nat} (h:(List.range sh.length).all (fun j=>Br sh j !=4||j==k)=true): ∀i j,Br sh i=4->Br sh j=4->i≠j->p i j:=fun i j hi hj hne=>absurd ((YJ h i hi).trans (YJ h j hj).symm) hne
end Go.Proofs.YtoaabebgmdbjeaaGreatDoor
namespace Go.Proofs.YtoaabebgmdbjeaaGreatDoor
open Go.RowKit
section
variable {P:Program} {ops:Array Oper} {Q:Exit->Act->World->Prop}
def Lc (ops:Array Oper) (n0:Nat):Bool:=decide (n0<ops.size)&&(List.range ops.size).all fun i=>decide (i<n0)||(List.range i).all fun j=>FE ops i j
theorem P5 {n0:Nat} (h:Lc ops n0=true) {i j:Nat} (hi:i<ops.size) (h0:n0<=i) (hj:j<i):FE ops i j=true:=by
 unfold Lc at h
 simp only [Bool.and_eq_true,decide_eq_true_eq] at h
 have:=List.all_eq_true.1 h.2 i (by simpa using hi)
 simp only [Bool.or_eq_true,decide_eq_true_eq] at this
 rcases this with this | this
 ·omega
 ·exact List.all_eq_true.1 this j (by simpa using hj)
theorem P6 {listed:Array Bool} {i j:Nat} (AJ: ∃o,ops[i]? =some o/\ ∀e∈o.after,Region.binds .any e=true->listed.getD e.on false=true) (hd:FE ops i j=true):listed.getD j false=true:=by
 obtain⟨o,ho,hall⟩:=AJ
 unfold FE at hd
 rw [ho] at hd
 simp only [Option.map_some,Option.getD_some,Array.any_eq_true'] at hd
 obtain⟨e,he,hb⟩:=hd
 simp only [Bool.and_eq_true,beq_iff_eq] at hb
 rw [<- hb.2]
 exact hall e he hb.1
theorem Fa {id n n0:Nat} {a0:Act} {w0:World} (J:(Nat->Bool)->(Nat->Value)->World->Prop)
  (hm:P.follows .mixedOrders=true) (hd:LZ ops=true) (hs:GI ops n=true) (hn:a0.tmps.size=n) (ht:Lc ops n0=true)
  (hJ: ∀L u u' w,(∀j,j<ops.size->u j=u' j)->J L u w->J L u' w)
  (hstep: ∀i,i<n0-> ∀L a w,L i=false->EH ops a0 a->a.tmps.size=n->J L (fun j=>valOf ops j a) w->(∀o,ops[i]? =some o-> ∀e∈o.after,Region.binds .any e=true->L e.on=true)->Closed ops L->
   Step P ops Q J L a w i)
  (hmid: ∀L a w,EH ops a0 a->a.tmps.size=n->J L (fun j=>valOf ops j a) w->(∀j,j<n0->L j=true)->wpList P ops Q (ops.toList.drop n0) a w)
  (h0:J (fun _=>false) (fun j=>valOf ops j a0) {w0 with drawn:=w0.drawn+1}):(Code.region id ops true).wp P Q a0 w0:=by
 have hn0:n0<ops.size:=by
  unfold Lc at ht
  simp only [Bool.and_eq_true,decide_eq_true_eq] at ht
  exact ht.1
 have hset: ∀(listed:Array Bool) i,listed.size=ops.size->i<ops.size->(fun k=>(listed.setIfInBounds i true).getD k false)=mark (fun k=>listed.getD k false) i:=by
  intro listed i hsz hil
  funext k
  unfold mark
  by_cases hk:k=i
  ·subst hk
   have:k<listed.size:=by omega
   simp [Array.getD_eq_getD_getElem?,this]
  ·simp [Array.getD_eq_getD_getElem?,hk,Array.getElem?_setIfInBounds_ne (Ne.symm hk)]
 have hnext: ∀k a w,k<ops.size->wpList P ops Q (ops.toList.drop k) a w->wpOp P ops Q k (wpList P ops Q (ops.toList.drop (k+1))) a w:=by
  intro k a w hk h
  have ho:ops[k]? =some ops[k] :=Array.getElem?_eq_getElem hk
  have hl:ops.toList.drop k=ops[k] ::ops.toList.drop (k+1):=by
   rw [List.drop_eq_getElem_cons (by simpa using hk)]
   simp
  rw [hl] at h
  unfold wpOp
  simp only [ho]
  exact h
 refine wp_region_any hm (NU (J:=fun listed a w=>((∀j,n0<=j->listed.getD j false=false)/\EH ops a0 a/\Closed ops (fun k=>listed.getD k false)/\J (fun k=>listed.getD k false) (fun j=>valOf ops j a) w)\/(∃k,n0<k/\k<=ops.size/\(∀j,j<ops.size->listed.getD j false=decide (j<k))/\wpList P ops Q (ops.toList.drop k) a w)) ?_ ?_ _ _ _ _ (by simp) ?_ ?_)
 ·intro listed a w hsz hr h
  have hall:=ready_nil hd hsz hr
  rcases h with ⟨h1,_⟩ | ⟨k,h1,h2,h3,h4⟩
  ·have:=h1 n0 (Nat.le_refl _)
   rw [hall n0 hn0] at this
   cases this
  ·have hk:k=ops.size:=by
    rcases Nat.lt_or_ge k ops.size with h | h
    ·have:=h3 k h
     rw [hall k h,decide_eq_false (Nat.lt_irrefl k)] at this
     cases this
    ·omega
   subst hk
   rw [List.drop_of_length_le (by simp)] at h4
   exact h4
 ·intro listed a w i hsz hi h
  obtain⟨hli,o,ho,AJ⟩:=Ij hi
  have hil:i<ops.size:=(Array.getElem?_eq_some_iff.1 ho).1
  have hL:listed.getD i false=false:=by rw [Array.getD_eq_getD_getElem?,hli];rfl
  rcases h with ⟨hT,h1,hc,h2⟩ | ⟨k,k1,k2,k3,k4⟩
  ·rcases Nat.lt_or_ge i n0 with hin | hin
   ·refine wpOp_mono (fun a' w' h'=>.inl ?_) (hstep i hin (fun k=>listed.getD k false) a w hL h1 (h1.1.trans hn) h2 (fun o' ho'=>by rw [ho] at ho';cases ho';exact AJ) hc)
    obtain⟨o',v,ho',hv,rfl,hj⟩:=h'
    rw [ho] at ho'
    cases ho'
    have hmk:=hset listed i hsz hil
    refine⟨fun j hj=>?_,h1.put ho v,by rw [hmk];exact hc.mark (fun o' ho'=>by rw [ho] at ho';cases ho';exact AJ),?_⟩
    ·have e1:(listed.setIfInBounds i true).getD j false=mark (fun k=>listed.getD k false) i j:=congrFun hmk j
     rw [e1]
     unfold mark
     rw [if_neg (by omega)]
     exact hT j hj
    rw [hmk]
    refine hJ _ _ _ _ (fun j hjl=>?_) hj
    unfold upd
    by_cases hji:j=i
    ·subst hji
     rw [if_pos rfl,Jc hs ho (h1.1.trans hn) v hv]
    ·rw [if_neg hji,Jb hs ho (Ne.symm hji)]
   ·have hall: ∀j,j<i->listed.getD j false=true:=fun j hj=>P6 ⟨o,ho,AJ⟩ (P5 ht hil hin hj)
    have hi0:i=n0:=by
     rcases Nat.lt_or_ge n0 i with h | h
     ·have:=hT n0 (Nat.le_refl _)
      rw [hall n0 h] at this
      cases this
     ·omega
    subst hi0
    have hml:=hmid (fun k=>listed.getD k false) a w h1 (h1.1.trans hn) h2 hall
    refine wpOp_mono (fun a' w' h'=>.inr ⟨i+1,by omega,by omega,fun j hj=>?_,h'⟩) (hnext i a w hil hml)
    have e1:(listed.setIfInBounds i true).getD j false=mark (fun k=>listed.getD k false) i j:=congrFun (hset listed i hsz hil) j
    rw [e1]
    unfold mark
    by_cases e:j=i
    ·rw [if_pos e,decide_eq_true (by omega)]
    ·rw [if_neg e]
     show listed.getD j false=_
     rcases Nat.lt_or_ge j i with h | h
     ·rw [hall j h,decide_eq_true (by omega)]
     ·rw [hT j (by omega),decide_eq_false (by omega)]
  ·have hik:i=k:=by
    have hki:k<=i:=by
     rcases Nat.lt_or_ge i k with h | h
     ·have:=k3 i hil
      rw [hL,decide_eq_true h] at this
      cases this
     ·exact h
    rcases Nat.lt_or_ge k i with h | h
    ·have h1:=P6 ⟨o,ho,AJ⟩ (P5 ht hil (by omega) h)
     have h2:=k3 k (by omega)
     rw [h1,decide_eq_false (Nat.lt_irrefl k)] at h2
     cases h2
    ·omega
   subst hik
   refine wpOp_mono (fun a' w' h'=>.inr ⟨i+1,by omega,by omega,fun j hj=>?_,h'⟩) (hnext i a w hil k4)
   have e1:(listed.setIfInBounds i true).getD j false=mark (fun k=>listed.getD k false) i j:=congrFun (hset listed i hsz hil) j
   rw [e1]
   unfold mark
   by_cases e:j=i
   ·rw [if_pos e,decide_eq_true (by omega)]
   ·rw [if_neg e]
    show listed.getD j false=_
    rw [k3 j hj]
    rcases Nat.lt_or_ge j i with h | h
    ·rw [decide_eq_true h,decide_eq_true (by omega)]
    ·rw [decide_eq_false (by omega),decide_eq_false (by omega)]
 ·unfold FY
  rw [Array.toList_replicate,List.count_replicate]
  simp
 ·have hnone:(fun k=>(Array.replicate ops.size false).getD k false)=fun _=>false:=by
   funext k
   simp only [Array.getD_eq_getD_getElem?,Array.getElem?_replicate]
   split<;>rfl
  refine .inl ⟨fun j _=>congrFun hnone j,⟨rfl,rfl,fun _ _=>rfl⟩,?_,?_⟩
  ·intro j hj
   have e1:(Array.replicate ops.size false).getD j false=false:=congrFun hnone j
   have e2:(Array.replicate ops.size false).getD j false=true:=hj
   rw [e1] at e2
   cases e2
  rw [hnone]
  exact h0
end
theorem Bh {P:Program} {Q:Exit->Act->World->Prop} {ops:Array Oper} {id n:Nat} {a0:Act} {w0:World} (n0:Nat) (S:List (Option Nat)) (olds:Nat->Array Value) (sh:DJ) (vals:Nat->Value) (sp:Spec) (gs:Nat->Nat)
  (hm:P.follows .mixedOrders=true) (hd:LZ ops=true) (hs:GI ops n=true) (hn:a0.tmps.size=n) (hsh:Gw sh ops=true) (ht:Lc ops n0=true)
  (hin: ∀j,Br sh j=4->some (gs j)∈S/\(olds j).size=gsz sh j/\Box w0 (gs j) (IJ sh j) (olds j)) (hne: ∀i j,Br sh i=4->Br sh j=4->i≠j->gs i≠gs j) (hsp:Aj (tys sh) sp)
  (hstep:GS ops S w0 olds sh (Iu sp) gs-> ∀i,i<n0-> ∀L a w,L i=false->EH ops a0 a->a.tmps.size=n->GJ ops S w0 olds sh vals (Iu sp) gs L (fun j=>valOf ops j a) w->(∀o,ops[i]? =some o-> ∀e∈o.after,Region.binds .any e=true->L e.on=true)->Closed ops L->
   Step P ops Q (GJ ops S w0 olds sh vals (Iu sp) gs) L a w i)
  (hdone: ∀(L:Nat->Bool) (u:Nat->Value) w,GJ ops S w0 olds sh vals (Iu sp) gs L u w->(∀j,j<n0->L j=true)->wpList P ops Q (ops.toList.drop n0) (Az ops u ops.size a0) w):(Code.region id ops true).wp P Q a0 w0:=by
 have hGS:GS ops S w0 olds sh (Iu sp) gs:=by
  refine⟨hsh,fun j hk=>⟨(hin j hk).1,(hin j hk).2.2.lt,(hin j hk).2.1⟩,fun j _ v w w' h b=>?_,fun j _ v w w' g T cs h hb hT hk=>?_,hne⟩
  ·unfold Iu at h⊢
   cases hsj:sp.getD j none with
   | none=>trivial
   | some p=>rw [hsj] at h;exact(hsp j p hsj).1 v w w' h b
  ·unfold Iu at h⊢
   cases hsj:sp.getD j none with
   | none=>trivial
   | some p=>rw [hsj] at h;exact(hsp j p hsj).2 v w w' g T cs h hb (Lb hT) hk
 refine Fa (GJ ops S w0 olds sh vals (Iu sp) gs) hm hd hs hn ht (fun L u u' w h hj=>hj.same hGS h) (hstep hGS) ?_ (GJ.start (fun j hk=>(hin j hk).2.2) _)
 intro L a w hsame _ hJ hall
 obtain⟨u,hu,ha⟩:=EY hsame
 rw [ha]
 exact hdone L u w (hJ.same hGS (fun j _=>(hu j).symm)) hall
end Go.Proofs.YtoaabebgmdbjeaaGreatDoor
namespace Go.Proofs.YtoaabebgmdbjeaaGreatDoor
open Go Go.RowKit
theorem Gd (g:Nat): ∀(l:List Value) (w:World) (i:Nat),w.setCells g i l=Gu w g i l
 | [],_,_=>rfl
 | v::l,w,i=>Gd g l _ (i+1)
section
variable {w:World} {g:Nat} {T:TypeId} {cs:Array Value}
theorem Box.rangeAt (h:Box w g T cs):w.rangeAt g 0 cs.toList:=fun j v hv=>by
 rw [Nat.zero_add,h.cell j]
 simpa using hv
theorem Box.there (h:Box w g T cs) {n:Nat} (hn:cs.size=n):w.there g 0 n:=fun j hj=>by
 rw [Nat.zero_add]
 refine⟨?_,h.frozen j⟩
 rw [h.cell j,Array.getElem?_eq_getElem (by omega)]
 rfl
theorem Kw {P:Program} {ops:Array Oper} {rest:List Oper} {op:Oper} {a:Act} {Q:Exit->Act->World->Prop} (h:Box w g T cs) (hgd:op.guard=none) (ty:TypeId) (x:Operand) (ho:op.op=.load ty x)
  (hx:a.eval x=.pointer (some ⟨g,0,none⟩)) (d:TypeDesc) (hu:P.underlying ty=some d) (hd:d.isRow=true) (hi:(P.info? ty).map (·.size)=some cs.size)
  (hk:wpList P ops Q rest (a.put op.dst (.agg cs)) w):wpList P ops Q (op::rest) a w:=
 wpList_load_mid hgd ty x ho g 0 hx cs.toList d h.rangeAt hu hd (by simpa using hi) (by simpa using hk)
theorem KD {P:Program} {ops:Array Oper} {rest:List Oper} {op:Oper} {a:Act} {Q:Exit->Act->World->Prop} {ds:Array Value} (h:Box w g T cs) (hs:cs.size=ds.size) (hgd:op.guard=none) (ty:TypeId) (x y:Operand) (ho:op.op=.store ty x y)
  (hx:a.eval x=.pointer (some ⟨g,0,none⟩)) (hy:a.eval y=.agg ds) (hi:(P.info? ty).map (·.size)=some ds.size) (h1:ds.all (·.oneCell')=true)
  (hk: ∀w',Box w' g T ds->Kept [some g] w w'->w'.heap.size=w.heap.size->wpList P ops Q rest (a.put op.dst undef) w'):wpList P ops Q (op::rest) a w:=by
 refine wpList_store_mid hgd ty x y ho g 0 ds hx hy (h.there hs) hi h1 ?_
 rw [Gd]
 refine hk _ (Jd h hs) (KC w g 0 ds.toList) ?_
 generalize ds.toList=l
 have: ∀(l:List Value) (w:World) (i:Nat),(Gu w g i l).heap.size=w.heap.size:=fun l=>by
  induction l with
  | nil=>intro w i;rfl
  | cons v l ih=>intro w i;rw [show Gu w g i (v::l)=Gu (w.setCell ⟨g,i,none⟩ v) g (i+1) l from rfl,ih];simp
 exact this l w 0
theorem Fb {P:Program} {ops:Array Oper} {rest:List Oper} {op:Oper} {a:Act} {Q:Exit->Act->World->Prop} {ds:Array Value} (o:Nat) (h:Box w g T cs) (hs:o+ds.size<=cs.size) (hgd:op.guard=none) (ty:TypeId) (x y:Operand) (ho:op.op=.store ty x y)
  (hx:a.eval x=.pointer (some ⟨g,o,none⟩)) (hy:a.eval y=.agg ds) (hi:(P.info? ty).map (·.size)=some ds.size) (h1:ds.all (·.oneCell')=true)
  (hk: ∀w',Box w' g T (Px cs o ds.toList)->Kept [some g] w w'->w'.heap.size=w.heap.size->wpList P ops Q rest (a.put op.dst undef) w'):wpList P ops Q (op::rest) a w:=by
 have ht:w.there g o ds.size:=fun j hj=>by
  refine⟨?_,h.frozen (o+j)⟩
  rw [h.cell (o+j),Array.getElem?_eq_getElem (by omega)]
  rfl
 refine wpList_store_mid hgd ty x y ho g o ds hx hy ht hi h1 ?_
 rw [Gd]
 refine hk _ (KA ds.toList w cs o h) (KC w g o ds.toList) ?_
 generalize ds.toList=l
 have: ∀(l:List Value) (w:World) (i:Nat),(Gu w g i l).heap.size=w.heap.size:=fun l=>by
  induction l with
  | nil=>intro w i;rfl
  | cons v l ih=>intro w i;rw [show Gu w g i (v::l)=Gu (w.setCell ⟨g,i,none⟩ v) g (i+1) l from rfl,ih];simp
 exact this l w o
end
end Go.Proofs.YtoaabebgmdbjeaaGreatDoor
