/- A part of the proof: RefWidth, GridRefNew, GridUse. -/
import Derived.Test.YtoaabebgmdbjeaaGreatDoorSb06
import Derived.Deep.RegionLaw
import Derived.Lib.SliceRun
import Derived.StillTailTactics
import Derived.Lib.OthersKept
set_option maxRecDepth 100000
set_option maxHeartbeats 16000000
set_option linter.unusedVariables false
namespace Go.Proofs.YtoaabebgmdbjeaaGreatDoor
open Go.RowKit
end Go.Proofs.YtoaabebgmdbjeaaGreatDoor
namespace Go.Proofs.YtoaabebgmdbjeaaGreatDoor
open Go.RowKit
theorem He {w w':World} {base size n:Nat} {e:TypeId} {v:Value} {xs:List Value} (h:w.ownsRow base e size v n xs) (hb:Below w.heap.size w w'):w'.ownsRow base e size v n xs:=BH h (Kept.of_below (L:= []) hb) (by simp)
end Go.Proofs.YtoaabebgmdbjeaaGreatDoor
namespace Go.Proofs.YtoaabebgmdbjeaaGreatDoor
open Go.RowKit
theorem Nf {n k:Nat} (h:Nat->PG.Cl) (v:PG.Cl):((List.range n).map h).set k v=(List.range n).map (fun j=>if j=k then v else h j):=by
 refine List.ext_getElem? fun j=>?_
 by_cases hj:j<n
 ·by_cases e:j=k
  ·subst e
   rw [List.getElem?_set_self (by simpa using hj),PG.DY hj,if_pos rfl]
  ·rw [List.getElem?_set_ne (by omega),PG.DY hj,PG.DY hj,if_neg e]
 ·rw [List.getElem?_eq_none (by rw [List.length_set];simp;omega),List.getElem?_eq_none (by simp;omega)]
theorem QG: ∀(l:List PG.Cl) (k:Nat) (x d:Int) (p:PG.Pn) (d':Int),l[k]? =some (x,d,p)->(Ag l).set (k*5+1) (.int .i64 d')=Ag (l.set k (x,d',p))
 | [],k,x,d,p,d',h=>by simp at h
 | c::l,0,x,d,p,d',h=>by
  simp at h
  subst h
  rfl
 | c::l,k+1,x,d,p,d',h=>by
  have ih:=QG l k x d p d' (by simpa using h)
  rw [List.set_cons_succ,Ca,Ca, <- ih,List.set_append_right _ _ (by show 5<=_;omega)]
  congr 2
  show(k+1)*5+1-5=k*5+1
  omega
theorem Yh {w:World} {base n g cap:Nat} {e:TypeId} {l:List PG.Cl} (h:w.ownsRow base e 5 (.slice (some ⟨g,0,none⟩) n cap) n (Ag l)) {k:Nat} {x d:Int} {p:PG.Pn} (hk:l[k]? =some (x,d,p)) (d':Int):
  (w.setCell ⟨g,k*5+1,none⟩ (.int .i64 d')).ownsRow base e 5 (.slice (some ⟨g,0,none⟩) n cap) n (Ag (l.set k (x,d',p)))/\w.grownBy (w.setCell ⟨g,k*5+1,none⟩ (.int .i64 d')) (some g):=by
 have s:=h.stored (k*5+1) (.int .i64 d')
 rw [QG l k x d p d' hk] at s
 exact s
def mid (f:Nat->PG.Cl) (c:Nat) (x:Int) (p:PG.Pn) (w:Nat) (j:Nat):PG.Cl:=if j+1=c/\PG.kd (f c)=2 then PG.blank (PG.pn (f j)) else PG.over f c x p w j
def Lm (w:World) (R K n cp g cap:Nat) (A:Option Addr) (p:PG.Pn) (h:Nat->PG.Cl) (wx:World):Prop:=
 Box wx w.heap.size 37 #[.int .i64 R,.int .i64 K,.slice A n cp] /\Box wx (w.heap.size+1) 38 #[.int .i64 p.1,.int .i64 p.2.1,.int .i64 p.2.2] /\Box wx (w.heap.size+1+1) 37 #[.int .i64 0,.int .i64 0,.slice none 0 0] /\
  wx.ownsRow w.heap.size 66 5 (.slice (some ⟨g,0,none⟩) K cap) K (Ag ((List.range K).map h))/\Below w.heap.size w wx
theorem Lm.set {w wx:World} {R K n cp g cap:Nat} {A:Option Addr} {p:PG.Pn} {h:Nat->PG.Cl} (H:Lm w R K n cp g cap A p h wx) {k:Nat} (hk:k<K) (v:PG.Cl):
  Lm w R K n cp g cap A p (fun j=>if j=k then v else h j) (Ci wx g (k*5) v):=by
 obtain⟨x0,x1,x2,ho,hb⟩:=H
 have S:=Eo ho (k:=k) v hk (by simp)
 refine⟨x0.grown S.2 (fun e=>Aa ho x0 (by decide) e.symm),x1.grown S.2 (fun e=>Aa ho x1 (by decide) e.symm),x2.grown S.2 (fun e=>Aa ho x2 (by decide) e.symm),?_,hb.grown S.2 hb.size (by rintro _ ⟨⟩;exact(ho.lt g rfl).1)⟩
 rw [<- Nf]
 exact S.1
theorem Lm.kind {w wx:World} {R K n cp g cap:Nat} {A:Option Addr} {p:PG.Pn} {h:Nat->PG.Cl} (H:Lm w R K n cp g cap A p h wx) {k:Nat} (hk:k<K) {x d:Int} {q:PG.Pn} (e:h k=(x,d,q)) (d':Int):
  Lm w R K n cp g cap A p (fun j=>if j=k then (x,d',q) else h j) (wx.setCell ⟨g,k*5+1,none⟩ (.int .i64 d')):=by
 obtain⟨x0,x1,x2,ho,hb⟩:=H
 have S:=Yh ho (k:=k) (x:=x) (d:=d) (p:=q) (by rw [PG.DY hk,e]) d'
 refine⟨x0.grown S.2 (fun e=>Aa ho x0 (by decide) e.symm),x1.grown S.2 (fun e=>Aa ho x1 (by decide) e.symm),x2.grown S.2 (fun e=>Aa ho x2 (by decide) e.symm),?_,hb.grown S.2 hb.size (by rintro _ ⟨⟩;exact(ho.lt g rfl).1)⟩
 rw [<- Nf]
 exact S.1
theorem Lm.call {w wx wy:World} {R K n cp g cap:Nat} {A:Option Addr} {p:PG.Pn} {h:Nat->PG.Cl} (H:Lm w R K n cp g cap A p h wx) (b:Below wx.heap.size wx wy):Lm w R K n cp g cap A p h wy:=by
 obtain⟨x0,x1,x2,ho,hb⟩:=H
 exact⟨x0.below b x0.lt,x1.below b x1.lt,x2.below b x2.lt,He ho b,hb.trans (b.mono hb.size)⟩
theorem Lm.five {w wx:World} {R K n cp g cap:Nat} {A:Option Addr} {p:PG.Pn} {h:Nat->PG.Cl} (H:Lm w R K n cp g cap A p h wx) {k:Nat} (hk:k<K):
  wx.cell? ⟨g,k*5,none⟩=some (.int .i32 (PG.rn (h k)))/\wx.cell? ⟨g,k*5+1,none⟩=some (.int .i64 (PG.kd (h k)))/\wx.cell? ⟨g,k*5+2,none⟩=some (.int .i64 (PG.pn (h k)).1)/\wx.cell? ⟨g,k*5+3,none⟩=some (.int .i64 (PG.pn (h k)).2.1)/\wx.cell? ⟨g,k*5+4,none⟩=some (.int .i64 (PG.pn (h k)).2.2)/\
  wx.frozen? ⟨g,k*5,none⟩=false/\wx.frozen? ⟨g,k*5+1,none⟩=false/\wx.frozen? ⟨g,k*5+2,none⟩=false/\wx.frozen? ⟨g,k*5+3,none⟩=false/\wx.frozen? ⟨g,k*5+4,none⟩=false:=
 IK H.2.2.2.1 (PG.DY hk)
end Go.Proofs.YtoaabebgmdbjeaaGreatDoor
namespace Go.Proofs.YtoaabebgmdbjeaaGreatDoor
open Go.RowKit
end Go.Proofs.YtoaabebgmdbjeaaGreatDoor
namespace Go.Proofs.YtoaabebgmdbjeaaGreatDoor
open Go.RowKit
namespace PG
end PG
structure Ng (w:World) (G:PG.Gr) (n cp R K N gt k:Nat) (ad:Addr) (v:Value) (wx:World):Prop where
 box0:Box wx w.heap.size 37 #[.int .i64 G.rows,.int .i64 G.AB,.slice (some ad) n cp]
 Rx:Box wx (w.heap.size+1) 37 #[.int .i64 0,.int .i64 0,.slice none 0 0]
 Ry:Box wx gt 37 #[.int .i64 R,.int .i64 K,v]
 own:wx.ownsRow w.heap.size 66 5 v N (Ag (PG.cells (PG.pG G R K k)))
 below:Below w.heap.size w wx
theorem Ng.call {w wx wy:World} {G:PG.Gr} {n cp R K N gt k:Nat} {ad:Addr} {v:Value} (h:Ng w G n cp R K N gt k ad v wx) (b:Below wx.heap.size wx wy):Ng w G n cp R K N gt k ad v wy:=
 ⟨h.box0.below b h.box0.lt,h.Rx.below b h.Rx.lt,h.Ry.below b h.Ry.lt,He h.own b,h.below.trans (b.mono h.below.size)⟩
theorem Ng.grown {w wx wy:World} {G:PG.Gr} {n cp R K N gt k:Nat} {ad:Addr} {v:Value} (h:Ng w G n cp R K N gt k ad v wx) {g' n' m:Nat} {v':Value} {xs:List Value} (o:wx.ownsRow m 66 5 v' n' xs) (hv:v'.ownBlock=some g') (hne:v.ownBlock≠some g') (hm:w.heap.size<=g') (b:wx.grownBy wy (some g')):Ng w G n cp R K N gt k ad v wy:=
 ⟨h.box0.grown b (fun e=>Aa o h.box0 (by decide) (hv.trans e.symm)),h.Rx.grown b (fun e=>Aa o h.Rx (by decide) (hv.trans e.symm)),h.Ry.grown b (fun e=>Aa o h.Ry (by decide) (hv.trans e.symm)),
  BH h.own (Kept.IL b) (fun q hq hm=>hne (by simp at hm;rw [hq,hm])),h.below.grown b h.below.size (by rintro _ ⟨⟩;exact hm)⟩
end Go.Proofs.YtoaabebgmdbjeaaGreatDoor
namespace Go.Proofs.YtoaabebgmdbjeaaGreatDoor
open Go.RowKit
theorem Rz (l:List PG.Cl) (A A':Option Addr) (B B' n c m c':Nat) (w:World) (hx:Au w B A n l) (hy:Au w B' A' m l) (hn:n<=1099511627776):
  Calls Tryz.prog 40 #[.slice A n c,.slice A' m c'] w fun e w'=>e=.returned (.bool true)/\ ∃q,w.drewN q=w':=by
 have e1:=hx.len
 have e2:=hy.len
 subst e1
 obtain rfl:=e2
 generalize hN:l.length=n at*
 have HX:=hide hx
 have HY:=hide hy
 clear hx hy
 go_enter Tryz.func40,Tryz.ntmps40
 go_wp2
 go_loopw [5] (fun i wr=> ∃k q:Nat,k<=n/\i=.int .i64 k/\wr=w.drewN q) (fun i _=>n-(intOf i).toNat)
 case atStart=>exact⟨0,0,Nat.zero_le _,rfl,rfl⟩
 case round=>
  obtain⟨k,q,hk,rfl,rfl⟩:=hrel
  by_cases hlt:k<n
  ·have hck:l[k]? =some l[k] :=List.getElem?_eq_getElem (by omega)
   generalize l[k] =cc at hck
   obtain⟨ad,rfl,_,d0,d1,d2,d3,d4⟩:=HX.out.five hck
   obtain⟨ad',rfl,_,n0,n1,n2,n3,n4⟩:=HY.out.five hck
   generalize PG.rn cc=x0 at*
   generalize PG.kd cc=x1 at*
   generalize (PG.pn cc).1=x2 at*
   generalize (PG.pn cc).2.1=x3 at*
   generalize (PG.pn cc).2.2=x4 at*
   clear hck
   go_wp2_with fail
   go_quiet (fail)
   go_wp2
   go_roundw
   case rel=>exact⟨k+1,_,by omega,by go_num,rfl⟩
   case measure=>simp [intOf];omega
  ·go_wp2
   go_ret
   exact⟨rfl,q,rfl⟩
end Go.Proofs.YtoaabebgmdbjeaaGreatDoor
namespace Go.Proofs.YtoaabebgmdbjeaaGreatDoor
open Go.RowKit
end Go.Proofs.YtoaabebgmdbjeaaGreatDoor
namespace Go.Proofs.YtoaabebgmdbjeaaGreatDoor
open Go.RowKit
def IsG (w:World) (G:PG.Gr) (v:Value):Prop:= ∃s,v=gv G.rows G.AB s/\w.ownsRow 0 66 5 s (G.rows*G.AB) (Ag (PG.cells G))
theorem IsG.low {w w':World} {G:PG.Gr} {v:Value} (h:IsG w G v) (b:Below w.heap.size w w'):IsG w' G v:=by
 obtain⟨s,h1,h2⟩:=h
 exact⟨s,h1,He h2 b⟩
theorem IsG.kept {w w':World} {G:PG.Gr} {v:Value} {g:Nat} {T:TypeId} {cs:Array Value} (h:IsG w G v) (hb:Box w g T cs) (hT:T≠66) (k:Kept [some g] w w'):IsG w' G v:=by
 obtain⟨s,h1,h2⟩:=h
 exact⟨s,h1,BH h2 k (fun b hb' hm=>Aa h2 hb (Ne.symm hT) (by simp at hm;rw [hb',hm]))⟩
def Cu (w:World) (g:Nat) (x y z:Value):World:=((w.setCell ⟨g,0,none⟩ x).setCell ⟨g,1,none⟩ y).setCell ⟨g,2,none⟩ z
theorem Yi {cs:Array Value} (hs:cs.size=3): ∃x y z,cs= #[x,y,z] :=by
 obtain⟨l⟩:=cs
 rcases l with _ | ⟨x,_ | ⟨y,_ | ⟨z,_ | ⟨u,l⟩⟩⟩⟩<;>simp at hs
 exact⟨x,y,z,rfl⟩
theorem Lp {w:World} {g:Nat} {T:TypeId} {cs:Array Value} (h:Box w g T cs) (hs:cs.size=3) (x y z:Value):Box (Cu w g x y z) g T #[x,y,z] :=by
 obtain⟨a,b,c,rfl⟩:=Yi hs
 exact h.Cu x y z
theorem Jj {w:World} {g g':Nat} {T:TypeId} {cs:Array Value} (h:Box w g T cs) (hne:g≠g') (x y z:Value):Box (Cu w g' x y z) g T cs:=h.E9 hne x y z
theorem Vi (w:World) (g:Nat) (x y z:Value):Kept [some g] w (Cu w g x y z):=
 (((Kept.refl _ w).setCell (p:=⟨g,0,none⟩) (From.mem (by simp)) _).setCell (p:=⟨g,1,none⟩) (From.mem (by simp)) _).setCell (p:=⟨g,2,none⟩) (From.mem (by simp)) _
abbrev Shape:=List (Nat × Nat × Nat × Nat)
def skd (sh:Shape) (j:Nat):Nat:=(sh.getD j (0,0,0,0)).1
def sba (sh:Shape) (j:Nat):Nat:=(sh.getD j (0,0,0,0)).2.1
def sva (sh:Shape) (j:Nat):Nat:=(sh.getD j (0,0,0,0)).2.2.1
def sty (sh:Shape) (j:Nat):Nat:=(sh.getD j (0,0,0,0)).2.2.2
def Lr (ops:Array Oper) (i j:Nat):Bool:=((ops[i]?).map fun o=>o.after.any fun e=>Region.binds .any e&&e.on==j).getD false
def K9 (sh:Shape) (ops:Array Oper):Bool:=sh.length==ops.size&&(List.range ops.size).all fun j=>
 (!(skd sh j==3)||(Lr ops j (sba sh j)&&Lr ops j (sva sh j)&&skd sh (sba sh j)==2&&sty sh (sba sh j)==sty sh j&&sty sh j !=66&&Nat.blt (sva sh j) ops.size&&(List.range j).all fun i=> !(skd sh i==3&&sba sh i==sba sh j)))&&
 (!(skd sh j==4)||(Lr ops j (sva sh j)&&sty sh j !=66&&Nat.blt (sva sh j) ops.size))
def Holds (w0:World) (sh:Shape) (vals:Nat->Value) (grs:Nat->PG.Gr) (gs:Nat->Nat) (j:Nat) (u:Nat->Value) (w:World):Prop:=
 (skd sh j=0->u j=vals j)/\
 (skd sh j=1->IsG w (grs j) (u j))/\
 (skd sh j=2-> ∃g cs,u j=.pointer (some ⟨g,0,none⟩)/\w0.heap.size<=g/\Box w g (sty sh j) cs/\cs.size=3)/\
 (skd sh j=3-> ∃g x y z,u (sba sh j)=.pointer (some ⟨g,0,none⟩)/\u (sva sh j)=.agg #[x,y,z] /\Box w g (sty sh j) #[x,y,z])/\
 (skd sh j=4-> ∃x y z,u (sva sh j)=.agg #[x,y,z] /\Box w (gs j) (sty sh j) #[x,y,z])
structure RJ (ops:Array Oper) (S:List (Option Nat)) (w0:World) (olds:Nat->Array Value) (sh:Shape) (vals:Nat->Value) (grs:Nat->PG.Gr) (gs:Nat->Nat) (L:Nat->Bool) (u:Nat->Value) (w:World):Prop where
 kept:Kept S w0 w
 old: ∀j,skd sh j=4->L j=false->Box w (gs j) (sty sh j) (olds j)
 dist: ∀i j,skd sh i=2->skd sh j=2->L i=true->L j=true->i≠j->u i≠u j
 all: ∀j,j<ops.size->L j=true->Holds w0 sh vals grs gs j u w
structure RS (ops:Array Oper) (S:List (Option Nat)) (w0:World) (olds:Nat->Array Value) (sh:Shape) (gs:Nat->Nat):Prop where
 shape:K9 sh ops=true
 inS: ∀j,skd sh j=4->some (gs j)∈S/\gs j<w0.heap.size/\(olds j).size=3
 ne4: ∀i j,skd sh i=4->skd sh j=4->i≠j->gs i≠gs j
section
variable {ops:Array Oper} {S:List (Option Nat)} {w0:World} {olds:Nat->Array Value} {sh:Shape} {vals:Nat->Value} {grs:Nat->PG.Gr} {gs:Nat->Nat}
theorem IU (hs:RS ops S w0 olds sh gs) {j:Nat} (h:skd sh j≠0):j<ops.size:=by
 have hl:=hs.shape
 unfold K9 at hl
 simp only [Bool.and_eq_true,beq_iff_eq] at hl
 rcases Nat.lt_or_ge j ops.size with h1 | h1
 ·exact h1
 ·exfalso
  apply h
  unfold skd
  rw [List.getD_eq_getElem?_getD,List.getElem?_eq_none (by omega)]
  rfl
theorem KI (hs:RS ops S w0 olds sh gs) {j:Nat} (h:skd sh j=3):Lr ops j (sba sh j)=true/\Lr ops j (sva sh j)=true/\skd sh (sba sh j)=2/\sty sh (sba sh j)=sty sh j/\sty sh j≠66/\sva sh j<ops.size/\ ∀i,i<j->skd sh i=3->sba sh i≠sba sh j:=by
 have hj:=IU hs (j:=j) (by omega)
 have hl:=hs.shape
 unfold K9 at hl
 simp only [Bool.and_eq_true] at hl
 have:=List.all_eq_true.1 hl.2 j (by simpa using hj)
 simp only [Bool.and_eq_true,Bool.or_eq_true,Bool.not_eq_true',beq_eq_false_iff_ne,beq_iff_eq,bne_iff_ne,ne_eq,Nat.blt_eq] at this
 rcases this.1 with h1 | ⟨⟨⟨⟨⟨⟨h1,h2⟩,h3⟩,h4⟩,h5⟩,h7⟩,h6⟩
 ·exact absurd h h1
 ·refine⟨h1,h2,h3,h4,h5,h7,fun i hi hk e=>?_⟩
  have:=List.all_eq_true.1 h6 i (by simpa using hi)
  simp [hk,e] at this
theorem Oe (hs:RS ops S w0 olds sh gs) {j:Nat} (h:skd sh j=4):Lr ops j (sva sh j)=true/\sty sh j≠66/\sva sh j<ops.size:=by
 have hj:=IU hs (j:=j) (by omega)
 have hl:=hs.shape
 unfold K9 at hl
 simp only [Bool.and_eq_true] at hl
 have:=List.all_eq_true.1 hl.2 j (by simpa using hj)
 simp only [Bool.and_eq_true,Bool.or_eq_true,Bool.not_eq_true',beq_eq_false_iff_ne,beq_iff_eq,bne_iff_ne,ne_eq,Nat.blt_eq] at this
 rcases this.2 with h1 | ⟨⟨h1,h2⟩,h3⟩
 ·exact absurd h h1
 ·exact⟨h1,h2,h3⟩
theorem came {L:Nat->Bool} (hcl:Closed ops L) {i j:Nat} (h:L i=true) (hd:Lr ops i j=true):L j=true:=by
 refine AZ (ops:=ops) (i:=i) (fun o ho e he hb=>hcl i h o ho e he hb) j hd
variable {L:Nat->Bool} {u:Nat->Value} {w w':World}
theorem RJ.same {u':Nat->Value} (hs:RS ops S w0 olds sh gs) (h:RJ ops S w0 olds sh vals grs gs L u w) (he: ∀j,j<ops.size->u j=u' j):RJ ops S w0 olds sh vals grs gs L u' w:=by
 refine⟨h.kept,h.old,fun i j hi hj li lj hne=>by rw [<- he i (IU hs (by omega)), <- he j (IU hs (by omega))];exact h.dist i j hi hj li lj hne,fun j hl hj=>?_⟩
 obtain⟨a,b,c,d,e⟩:=h.all j hl hj
 refine⟨fun k=>by rw [<- he j hl];exact a k,fun k=>by rw [<- he j hl];exact b k,fun k=>by rw [<- he j hl];exact c k,fun k=>?_,fun k=>?_⟩
 ·obtain⟨_,_,s3,_,_,s6,_⟩:=KI hs k
  rw [<- he _ (IU hs (j:=sba sh j) (by omega)), <- he _ s6]
  exact d k
 ·rw [<- he _ (Oe hs k).2.2]
  exact e k
theorem RJ.low (hs:RS ops S w0 olds sh gs) (h:RJ ops S w0 olds sh vals grs gs L u w) (hcl:Closed ops L) {i:Nat} (hL:L i=false) (b:Below w.heap.size w w') (v:Value) (hk4:skd sh i≠4)
  (hd2:skd sh i=2-> ∀j,skd sh j=2->L j=true->u j≠v) (hi:Holds w0 sh vals grs gs i (upd u i v) w'):RJ ops S w0 olds sh vals grs gs (mark L i) (upd u i v) w':=by
 have hu: ∀j,L j=true->upd u i v j=u j:=fun j hj=>FC (fun e=>by rw [e,hL] at hj;cases hj)
 have hm: ∀j,mark L i j=true->j=i\/L j=true:=fun j hj=>by
  by_cases e:j=i
  ·exact .inl e
  ·rw [Eh e] at hj;exact .inr hj
 refine⟨h.kept.below b,fun j hk hj=>?_,fun a c ha hc la lc hne=>?_,fun j hl hj=>?_⟩
 ·have hj':L j=false:=by
   by_cases e:j=i
   ·rw [e,Gt] at hj;cases hj
   ·rwa [Eh e] at hj
  have hb:=h.old j hk hj'
  exact hb.below b hb.lt
 ·rcases hm a la with rfl | la'
  ·rcases hm c lc with rfl | lc'
   ·exact absurd rfl hne
   ·rw [EZ,hu c lc']
    exact fun e=>hd2 ha c hc lc' e.symm
  ·rcases hm c lc with rfl | lc'
   ·rw [EZ,hu a la']
    exact hd2 hc a ha la'
   ·rw [hu a la',hu c lc']
    exact h.dist a c ha hc la' lc' hne
 ·rcases hm j hj with rfl | hj'
  ·exact hi
  ·obtain⟨a,c,d,e,f⟩:=h.all j hl hj'
   refine⟨fun k=>by rw [hu j hj'];exact a k,fun k=>by rw [hu j hj'];exact(c k).low b,fun k=>?_,fun k=>?_,fun k=>?_⟩
   ·obtain⟨g,cs,k1,k2,k3,k4⟩:=d k
    exact⟨g,cs,by rw [hu j hj'];exact k1,k2,k3.below b k3.lt,k4⟩
   ·obtain⟨g,x,y,z,k1,k2,k3⟩:=e k
    obtain⟨s1,s2,_⟩:=KI hs k
    exact⟨g,x,y,z,by rw [hu _ (came hcl hj' s1)];exact k1,by rw [hu _ (came hcl hj' s2)];exact k2,k3.below b k3.lt⟩
   ·obtain⟨x,y,z,k1,k2⟩:=f k
    exact⟨x,y,z,by rw [hu _ (came hcl hj' (Oe hs k).1)];exact k1,k2.below b k2.lt⟩
theorem RJ.val (hs:RS ops S w0 olds sh gs) (h:RJ ops S w0 olds sh vals grs gs L u w) (hcl:Closed ops L) {i:Nat} (hL:L i=false) (hk:skd sh i=0) (b:Below w.heap.size w w') (v:Value) (hv:vals i=v):RJ ops S w0 olds sh vals grs gs (mark L i) (upd u i v) w':=
 h.low hs hcl hL b v (by omega) (fun e=>by omega) ⟨fun _=>by rw [EZ,hv],fun e=>by omega,fun e=>by omega,fun e=>by omega,fun e=>by omega⟩
theorem RJ.box (hs:RS ops S w0 olds sh gs) (h:RJ ops S w0 olds sh vals grs gs L u w) (hcl:Closed ops L) {i:Nat} (hL:L i=false) (hk:skd sh i=2) (T:TypeId) (hT:sty sh i=T) (x y z:Value):RJ ops S w0 olds sh vals grs gs (mark L i) (upd u i (.pointer (some ⟨w.heap.size,0,none⟩))) (w.alloc (.cells #[x,y,z] T)):=by
 subst hT
 refine h.low hs hcl hL ((Below.refl _ _).alloc (Nat.le_refl _) _) _ (by omega) (fun _ j hj lj e=>?_) ⟨fun e=>by omega,fun e=>by omega,fun _=>⟨_,_,EZ,h.kept.size,Box.new w _ _,rfl⟩,fun e=>by omega,fun e=>by omega⟩
 obtain⟨g,cs,k1,k2,k3,k4⟩:=(h.all j (IU hs (by omega)) lj).2.2.1 hj
 rw [k1] at e
 cases e
 exact absurd k3.lt (Nat.lt_irrefl _)
theorem RJ.hit (hs:RS ops S w0 olds sh gs) (h:RJ ops S w0 olds sh vals grs gs L u w) (hcl:Closed ops L) {i g:Nat} {T:TypeId} {cs:Array Value} (hL:L i=false) (hb:Box w g T cs) (hsz:cs.size=3) (hT:T≠66) (x y z:Value) (hk:skd sh i=3\/skd sh i=4)
  (hS:From w0 S (some g)) (h4: ∀j,j≠i->skd sh j=4->gs j≠g) (h3: ∀j,j≠i->skd sh j=3->L j=true-> ∀g',u (sba sh j)=.pointer (some ⟨g',0,none⟩)->g'≠g) (hi:Holds w0 sh vals grs gs i (upd u i undef) (Cu w g x y z)):
  RJ ops S w0 olds sh vals grs gs (mark L i) (upd u i undef) (Cu w g x y z):=by
 have hu: ∀j,L j=true->upd u i undef j=u j:=fun j hj=>FC (fun e=>by rw [e,hL] at hj;cases hj)
 have hm: ∀j,mark L i j=true->j=i\/L j=true:=fun j hj=>by
  by_cases e:j=i
  ·exact .inl e
  ·rw [Eh e] at hj;exact .inr hj
 have hk2:=Vi w g x y z
 refine⟨h.kept.trans hk2 (by simpa using hS),fun j hk hj=>?_,fun a c ha hc la lc hne=>?_,fun j hl hj=>?_⟩
 ·by_cases e:j=i
  ·rw [e,Gt] at hj;cases hj
  ·rw [Eh e] at hj
   exact Jj (h.old j hk hj) (h4 j e hk) x y z
 ·rcases hm a la with rfl | la'
  ·omega
  ·rcases hm c lc with rfl | lc'
   ·omega
   ·rw [hu a la',hu c lc']
    exact h.dist a c ha hc la' lc' hne
 ·rcases hm j hj with rfl | hj'
  ·exact hi
  ·have hji:j≠i:=fun e=>by rw [e,hL] at hj';cases hj'
   obtain⟨a,c,d,e,f⟩:=h.all j hl hj'
   refine⟨fun k=>by rw [hu j hj'];exact a k,fun k=>by rw [hu j hj'];exact(c k).kept hb hT hk2,fun k=>?_,fun k=>?_,fun k=>?_⟩
   ·obtain⟨g',cs',k1,k2,k3,k4⟩:=d k
    by_cases eg:g'=g
    ·subst eg
     exact⟨g', #[x,y,z],by rw [hu j hj'];exact k1,k2,Lp k3 k4 x y z,rfl⟩
    ·exact⟨g',cs',by rw [hu j hj'];exact k1,k2,Jj k3 eg x y z,k4⟩
   ·obtain⟨g',x',y',z',k1,k2,k3⟩:=e k
    obtain⟨s1,s2,_⟩:=KI hs k
    exact⟨g',x',y',z',by rw [hu _ (came hcl hj' s1)];exact k1,by rw [hu _ (came hcl hj' s2)];exact k2,Jj k3 (h3 j hji k hj' g' k1) x y z⟩
   ·obtain⟨x',y',z',k1,k2⟩:=f k
    exact⟨x',y',z',by rw [hu _ (came hcl hj' (Oe hs k).1)];exact k1,Jj k2 (h4 j hji k) x y z⟩
theorem RJ.put (hs:RS ops S w0 olds sh gs) (h:RJ ops S w0 olds sh vals grs gs L u w) (hcl:Closed ops L) {i g:Nat} (hL:L i=false) (hk:skd sh i=3) (la:L (sba sh i)=true) (lv:L (sva sh i)=true) (hg:u (sba sh i)=.pointer (some ⟨g,0,none⟩)) {x y z:Value} (hv:u (sva sh i)=.agg #[x,y,z]):
  RJ ops S w0 olds sh vals grs gs (mark L i) (upd u i undef) (Cu w g x y z):=by
 obtain⟨s1,s2,s3,s4,s5,_,s6⟩:=KI hs hk
 obtain⟨g',cs,k1,k2,k3,k4⟩:=(h.all _ (IU hs (by omega)) la).2.2.1 s3
 rw [hg] at k1
 cases k1
 rw [s4] at k3
 have hna:sba sh i≠i:=fun e=>by rw [e,hL] at la;cases la
 have hnv:sva sh i≠i:=fun e=>by rw [e,hL] at lv;cases lv
 refine h.hit hs hcl hL k3 k4 s5 x y z (.inl hk) (fun b e=>by cases e;exact .inr k2) (fun j _ hj e=>?_) (fun j hne hj lj g' hg' e=>?_) ⟨fun e=>by omega,fun e=>by omega,fun e=>by omega,fun _=>⟨g,x,y,z,by rw [FC hna];exact hg,by rw [FC hnv];exact hv,Lp k3 k4 x y z⟩,fun e=>by omega⟩
 ·have:=(hs.inS j hj).2.1
  omega
 ·subst e
  obtain⟨t1,t2,t3,t4,t5,_,t6⟩:=KI hs hj
  have hd:sba sh j≠sba sh i:=by
   rcases Nat.lt_or_gt_of_ne hne with hlt | hlt
   ·exact s6 j hlt hj
   ·exact fun e=>t6 i hlt hk e.symm
  exact h.dist _ _ t3 s3 (came hcl lj t1) la hd (hg'.trans hg.symm)
theorem RJ.set (hs:RS ops S w0 olds sh gs) (h:RJ ops S w0 olds sh vals grs gs L u w) (hcl:Closed ops L) {i:Nat} (hL:L i=false) (hk:skd sh i=4) (lv:L (sva sh i)=true) {x y z:Value} (hv:u (sva sh i)=.agg #[x,y,z]):
  RJ ops S w0 olds sh vals grs gs (mark L i) (upd u i undef) (Cu w (gs i) x y z):=by
 obtain⟨s1,s2,_⟩:=Oe hs hk
 obtain⟨a1,a2,a3⟩:=hs.inS i hk
 have hb:=h.old i hk hL
 have hnv:sva sh i≠i:=fun e=>by rw [e,hL] at lv;cases lv
 refine h.hit hs hcl hL hb a3 s2 x y z (.inr hk) (From.mem a1) (fun j hne hj=>hs.ne4 j i hj hk hne) (fun j hne hj lj g' hg' e=>?_) ⟨fun e=>by omega,fun e=>by omega,fun e=>by omega,fun e=>by omega,fun _=>⟨x,y,z,by rw [FC hnv];exact hv,Lp hb a3 x y z⟩⟩
 subst e
 obtain⟨t1,t2,t3,_⟩:=KI hs hj
 obtain⟨g,cs,k1,k2,_⟩:=(h.all _ (IU hs (by omega)) (came hcl lj t1)).2.2.1 t3
 rw [hg'] at k1
 cases k1
 omega
theorem RJ.valOf (h:RJ ops S w0 olds sh vals grs gs L u w) {j:Nat} (hl:j<ops.size) (hj:L j=true) (hk:skd sh j=0) {v:Value} (hv:vals j=v):u j=v:=((h.all j hl hj).1 hk).trans hv
theorem RJ.jv (h:RJ ops S w0 olds sh vals grs gs L u w) {j:Nat} (hl:j<ops.size) (hj:L j=true) (hk:skd sh j=2): ∃g cs,u j=.pointer (some ⟨g,0,none⟩)/\w0.heap.size<=g/\Box w g (sty sh j) cs/\cs.size=3:=(h.all j hl hj).2.2.1 hk
theorem RJ.Ah (h:RJ ops S w0 olds sh vals grs gs L u w) {g:Nat} {T:TypeId} {cs:Array Value} (hb:Box w0 g T cs) (hn:some g∉S):Box w g T cs:=hb.kept h.kept hn
theorem RJ.start (hb: ∀j,skd sh j=4->Box w0 (gs j) (sty sh j) (olds j)) (u:Nat->Value):RJ ops S w0 olds sh vals grs gs (fun _=>false) u {w0 with drawn:=w0.drawn+1}:=
 ⟨(Kept.refl S w0).drew,fun j hk _=>hb j hk,(fun i j _ _ li=>by cases li),(fun j _ hj=>by cases hj)⟩
end
end Go.Proofs.YtoaabebgmdbjeaaGreatDoor
namespace Go.Proofs.YtoaabebgmdbjeaaGreatDoor
open Go.RowKit
structure KGr (w:World) (rw cl:Int) (Ar Ap:Option Addr) (nr cr np cp R K N gt:Nat) (rs ps:List Int) (l:List PG.Cl) (v:Value) (wx:World):Prop where
 box0:Box wx w.heap.size 24 #[.int .i64 rw,.int .i64 cl,.slice Ar nr cr,.slice Ap np cp]
 Rx:Box wx (w.heap.size+1) 37 #[.int .i64 0,.int .i64 0,.slice none 0 0]
 Ry:Box wx gt 37 #[.int .i64 R,.int .i64 K,v]
 own:wx.ownsRow w.heap.size 66 5 v l.length (Ag l)
 below:Below w.heap.size w wx
 ok:PG.Ok K l
 fit:l.length<=N
 rest:PG.Rb rs ps K N N l=PG.Rb rs ps K N N []
theorem KGr.call {w wx wy:World} {rw cl:Int} {Ar Ap:Option Addr} {nr cr np cp R K N gt:Nat} {rs ps:List Int} {l:List PG.Cl} {v:Value} (h:KGr w rw cl Ar Ap nr cr np cp R K N gt rs ps l v wx) (b:Below wx.heap.size wx wy):KGr w rw cl Ar Ap nr cr np cp R K N gt rs ps l v wy:=
 ⟨h.box0.below b h.box0.lt,h.Rx.below b h.Rx.lt,h.Ry.below b h.Ry.lt,He h.own b,h.below.trans (b.mono h.below.size),h.ok,h.fit,h.rest⟩
end Go.Proofs.YtoaabebgmdbjeaaGreatDoor
namespace Go.Proofs.YtoaabebgmdbjeaaGreatDoor
open Go.RowKit
namespace PG
def R5 (g:Gr) (r c x:Int) (p:Pn):Gr:=if 0<=r/\0<=c then EL g r.toNat c.toNat x p else g
def Jk (g:Gr) (r a b:Int) (p:Pn):Gr:=if 0<=r then DW g r.toNat (max a 0).toNat (min b g.AB).toNat p else g
theorem Yj {g:Gr} (h:BL g) {r j:Nat} (hr:r<g.rows) (hj:j<g.AB): -2147483648<=rn (g.f r j)/\rn (g.f r j)<=2147483647:=by
 have hk: ∀{x:Int},U.isR x=true-> -2147483648<=x/\x<=2147483647:=fun {x} hx=>by
  unfold U.isR at hx
  have:=of_decide_eq_true hx
  omega
 rcases(h.2.2.2.2 r hr j hj).2 with k | k | k
 ·exact hk (I8 (.inl k.2))
 ·exact hk (I8 (.inr k.2.1))
 ·omega
end PG
theorem IsG.open_ {w:World} {G:PG.Gr} {v:Value} (h:IsG w G v): ∃A c,v=gv G.rows G.AB (.slice A (G.rows*G.AB) c)/\Au w w.heap.size A (G.rows*G.AB) (PG.cells G)/\G.rows*G.AB<=c/\c<=maxLen:=by
 obtain⟨s,rfl,ho⟩:=h
 obtain⟨A,c,rfl,h1,h2,_⟩:=Bb ho
 exact⟨A,c,rfl,Au.Bu ho,h1,h2⟩
def Dk (w:World) (G:PG.Gr) (e:Ending) (w':World):Prop:= ∃v,e=.returned v/\IsG w' G v/\Below w.heap.size w w'
theorem Jl {w:World} {R K:Nat} {G:PG.Gr} {l:List PG.Cl} {e:Ending} {w':World} (h:GQ w R K (R*K) l e w') (hl:l=PG.cells G) (hR:G.rows=R) (hK:G.AB=K):Dk w G e w':=by
 subst hR hK hl
 obtain⟨g,rfl,ho,hb⟩:=h
 exact⟨_,rfl,⟨_,rfl,own_base' ho (Nat.zero_le _)⟩,hb⟩
section
variable {G H:PG.Gr} {v v':Value} {w:World}
theorem gG {r c x:Int} {p:PG.Pn} {q k:Nat} (hr:r=q) (hc:c=k):PG.R5 G r c x p=PG.EL G q k x p:=by
 subst hr hc
 unfold PG.R5
 rw [if_pos (by omega)]
 rfl
theorem Yk {r c x:Int} {p:PG.Pn} (h: ¬(0<=r/\r<G.rows/\0<=c/\1<=C.width x/\c+C.width x<=G.AB)):PG.R5 G r c x p=G:=by
 unfold PG.R5
 split
 ·rename_i h0
  exact PG.bV (fun h1=>h (by omega))
 ·rfl
theorem pJ (hG:PG.BL G) (h:IsG w G v) (r c x:Int) (p:PG.Pn) (hr: -1000<=r/\r<=1000) (hc: -1000<=c/\c<=1000) (hx0: -2147483648<=x) (hx1:x<=2147483647) (hs:D6 w):
  Calls Tryz.prog 65 #[v,.int .i64 r,.int .i64 c,.int .i32 x,pv p] w (Dk w (PG.R5 G r c x p)):=by
 obtain⟨A,cp,rfl,hl,h1,h2⟩:=h.open_
 have hw:=Ji x p
 by_cases hi:0<=r/\r<G.rows/\0<=c/\1<=C.width x/\c+C.width x<=G.AB
 ·obtain⟨q,rfl⟩:=Int.eq_ofNat_of_zero_le hi.1
  obtain⟨k,rfl⟩:=Int.eq_ofNat_of_zero_le hi.2.2.1
  rw [gG rfl rfl]
  refine(fZ G.rows G.AB _ cp w.heap.size q k x p A _ w hl (Nat.le_refl _) rfl (by omega) hG.2.1 hG.2.2.1 hG.2.2.2.1 hx0 hx1 hs (by omega) (by omega)).mono fun e w' hm=>?_
  exact Jl hm (PG.Vg hG (by omega) hi.2.2.2.1 (by omega)) (PG.Cm ..).1 (PG.Cm ..).2
 ·rw [Yk hi]
  refine(Yd G.rows G.AB _ cp w.heap.size r c x p A _ w hl (Nat.le_refl _) rfl hG.1 hG.2.1 hG.2.2.1 hG.2.2.2.1 hx0 hx1 hs hc.1 hc.2 (by have:=PG.FX x;omega)).mono fun e w' hm=>?_
  exact Jl hm rfl rfl rfl
def atI (G:PG.Gr) (r c:Int):Value:=if 0<=r/\r<G.rows/\0<=c/\c<G.AB then atv (G.f r.toNat c.toNat) true else atv PG.none false
theorem lK {r c:Nat} (hr:r<G.rows) (hc:c<G.AB):atI G r c=atv (G.f r c) true:=by
 unfold atI
 rw [if_pos (by omega)]
 rfl
theorem pK (hG:PG.BL G) (h:IsG w G v) (r c:Int):Calls Tryz.prog 29 #[v,.int .i64 r,.int .i64 c] w fun e w'=>e=.returned (atI G r c)/\Below w.heap.size w w':=by
 obtain⟨A,cp,rfl,hl,h1,h2⟩:=h.open_
 by_cases hi:0<=r/\r<G.rows/\0<=c/\c<G.AB
 ·obtain⟨q,rfl⟩:=Int.eq_ofNat_of_zero_le hi.1
  obtain⟨k,rfl⟩:=Int.eq_ofNat_of_zero_le hi.2.2.1
  have hq:q<G.rows:=by omega
  have hk:k<G.AB:=by omega
  have:=lJ G _ cp w.heap.size q k A w hl (Nat.le_refl _) rfl h1 h2 hq hk hG.2.1 hG.2.2.2.1
  rw [<- lK hq hk] at this
  exact this
 ·have hnn:0*G.AB+0<G.rows*G.AB:=PG.Bt hG.1 hG.2.2.1
  obtain⟨c0,hc0'⟩: ∃c0,(PG.cells G)[0]? =some c0:=⟨_,List.getElem?_eq_getElem (by rw [PG.Aw];omega)⟩
  obtain⟨ad,rfl,_⟩:=hl.at_ hc0'
  have e:atI G r c=atv PG.none false:=if_neg hi
  rw [e]
  exact gD G.rows G.AB _ cp r c ad w rfl h1 h2 hG.1 hG.2.1 hG.2.2.1 hG.2.2.2.1 (by omega)
theorem size_le (hG:PG.BL G):G.rows*G.AB<=2400:=Nat.mul_le_mul hG.2.1 hG.2.2.2.1
theorem gH (hG:PG.BL G) (h:IsG w G v) (hs:D6 w):Calls Tryz.prog 45 #[v] w fun e w'=>e=.returned (.bool true)/\Below w.heap.size w w':=by
 obtain⟨A,cp,rfl,hl,h1,h2⟩:=h.open_
 exact Rv G _ cp w.heap.size A w hG hl (Nat.le_refl _) rfl h1 h2 (fun r j hr hj=>PG.Yj hG hr hj) hs
theorem R6 (hG:PG.BL G) (h:IsG w G v) (r:Nat) (hr:r<G.rows):Calls Tryz.prog 50 #[v,.int .i64 r] w fun e w'=>e=.returned (.string (strOfNums (PG.text (G.f r) G.AB)))/\Below w.heap.size w w':=by
 obtain⟨A,cp,rfl,hl,h1,h2⟩:=h.open_
 exact Yg G _ cp w.heap.size r A w hG hl (Nat.le_refl _) rfl h1 h2 hr
end
end Go.Proofs.YtoaabebgmdbjeaaGreatDoor
namespace Go.Proofs.YtoaabebgmdbjeaaGreatDoor
open Go.RowKit
theorem QH (w:World): ∀k,(Value.slice (some ⟨w.heap.size,0,none⟩) 0 0).ownBlock=some k->w.heap.size<=k:=fun k hk=>by
 have:w.heap.size=k:=by simpa [Value.ownBlock] using hk
 omega
theorem Ls (n c B:Nat) (ad:Addr) (l:List PG.Cl) (w:World) (hl:Au w B (some ad) n l) (hB:B<=w.heap.size) (hn:n<=1048576):
  Calls Tryz.prog 39 #[.slice (some ad) n c] w fun e w'=> ∃v,e=.returned v/\w'.ownsRow w.heap.size 66 5 v n (Ag l)/\Below w.heap.size w w':=by
 obtain⟨i0,hi,hz0,hz1,hz2⟩:=info_parts DN
 have qT: ∀(w:World) (a:Option Addr) (n c n' c':Nat),(binOp .eql 35 (.slice a n c) (.slice none n' c')).run Tryz.prog w=.ok (.bool a.isNone) w:=fun w a n c n' c'=>Lib.run_eql_slice_nil w _ _ a n c n' c' Tryz.underlying35
 have own0:=YL (w:=w) (base:=w.heap.size) 66 rfl (Nat.le_refl _)
 have hs1:=(Au.below hl (Below.alloc (Below.refl _ _) hB (.cells #[] 66)))
 go_enter Tryz.func39,Tryz.ntmps39
 go_wp2_with (
  at_builtin
  go_must (refine P7 rfl (.tmp 5) (.tmp 6) 35 rfl w.heap.size 66 i0 _ 40 Tryz.underlying35 hi hz0 hz1 hz2 rfl _ 0 [] rfl own0 B (some ad) n c l rfl hs1 (by omega) (by omega) (by simp) ?_)
  intro v1 w1 hown1 hg1 hm1)
 go_ret
 exact⟨_,rfl,by simpa using hown1,((Below.refl _ _).alloc (Nat.le_refl _) _).grown hg1 (by simp) (QH w)⟩
end Go.Proofs.YtoaabebgmdbjeaaGreatDoor
namespace Go.Proofs.YtoaabebgmdbjeaaGreatDoor
open Go.RowKit
def Yl (w:World) (G:PG.Gr) (g:Nat):Prop:= ∃s,Box w g 37 #[.int .i64 G.rows,.int .i64 G.AB,s] /\IsG w G (gv G.rows G.AB s)
theorem Yl.low {w w':World} {G:PG.Gr} {g:Nat} (h:Yl w G g) (b:Below w.heap.size w w'):Yl w' G g:=by
 obtain⟨s,h1,h2⟩:=h
 exact⟨s,h1.below b h1.lt,h2.low b⟩
theorem lM {R K:Nat} {s x y z:Value} (h:gv R K s=.agg #[x,y,z]):x=.int .i64 R/\y=.int .i64 K/\z=s:=by
 unfold gv at h
 injection h with h
 injection h with h
 injection h with h1 h
 injection h with h2 h
 injection h with h3 h
 exact⟨h1.symm,h2.symm,h3.symm⟩
theorem Yl.open_ {w:World} {G:PG.Gr} {g R K:Nat} (h:Yl w G g) (hR:G.rows=R) (hK:G.AB=K): ∃A c,Box w g 37 #[.int .i64 R,.int .i64 K,.slice A (R*K) c] /\Au w w.heap.size A (R*K) (PG.cells G)/\R*K<=c/\c<=maxLen/\IsG w G (gv R K (.slice A (R*K) c)):=by
 subst hR hK
 obtain⟨s,h1,h2⟩:=h
 obtain⟨A,c,hs,h3,h4,h5⟩:=h2.open_
 obtain⟨-, -,rfl⟩:=lM hs
 exact⟨A,c,h1,h3,h4,h5,h2⟩
section
variable {ops:Array Oper} {S:List (Option Nat)} {w0 w:World} {olds:Nat->Array Value} {sh:Shape} {vals:Nat->Value} {grs:Nat->PG.Gr} {gs:Nat->Nat} {L:Nat->Bool} {u:Nat->Value}
end
end Go.Proofs.YtoaabebgmdbjeaaGreatDoor
namespace Go.Proofs.YtoaabebgmdbjeaaGreatDoor.PG
end Go.Proofs.YtoaabebgmdbjeaaGreatDoor.PG
namespace Go.Proofs.YtoaabebgmdbjeaaGreatDoor
end Go.Proofs.YtoaabebgmdbjeaaGreatDoor
namespace Go.Proofs.YtoaabebgmdbjeaaGreatDoor
open Go.RowKit
end Go.Proofs.YtoaabebgmdbjeaaGreatDoor
namespace Go.Proofs.YtoaabebgmdbjeaaGreatDoor
open Go.RowKit
end Go.Proofs.YtoaabebgmdbjeaaGreatDoor
namespace Go.Proofs.YtoaabebgmdbjeaaGreatDoor
open Go.RowKit
theorem NA (l l':List PG.Cl) (A A':Option Addr) (B B' n c m c':Nat) (b:Bool) (w:World) (hx:Au w B A n l) (hy:Au w B' A' m l') (hn:n<=9223372036854775807) (hm:m<=9223372036854775807) (hb:b=true<->l=l'):
  Calls Tryz.prog 132 #[.slice A n c,.slice A' m c'] w fun e w'=>e=.returned (.bool b)/\ ∃q,w.drewN q=w':=by
 have e1:=hx.len
 have e2:=hy.len
 have HX:=hide hx
 have HY:=hide hy
 clear hx hy
 by_cases hnm:n=m
 ·subst hnm
  have HB:=hide hb
  have HL:=hide e1
  have HM:=hide e2
  clear hb e1 e2
  go_enter Tryz.func132,Tryz.ntmps132
  go_wp2
  go_loopw [13] (fun i wr=> ∃k q:Nat,k<=n/\i=.int .i64 k/\wr=w.drewN q/\l.take k=l'.take k) (fun i _=>n-(intOf i).toNat)
  case atStart=>exact⟨0,0,Nat.zero_le _,rfl,rfl,rfl⟩
  case round=>
   obtain⟨k,q,hk,rfl,rfl,htk⟩:=hrel
   have HT:=hide htk
   clear htk
   by_cases hlt:k<n
   ·have hck:l[k]? =some (l[k]'(by have:=HL.out;omega)):=List.getElem?_eq_getElem (by have:=HL.out;omega)
    have hdk:l'[k]? =some (l'[k]'(by have:=HM.out;omega)):=List.getElem?_eq_getElem (by have:=HM.out;omega)
    generalize l[k]'(by have:=HL.out;omega)=cc at hck
    generalize l'[k]'(by have:=HM.out;omega)=dd at hdk
    have HC:=hide hck
    have HD:=hide hdk
    by_cases hcd:cc=dd
    ·subst hcd
     have HN:=hide (show l.take (k+1)=l'.take (k+1) by
      rw [List.take_add_one,List.take_add_one,HT.out,hck,hdk])
     obtain⟨ad,rfl,_,d0,d1,d2,d3,d4⟩:=HX.out.five hck
     obtain⟨ad',rfl,_,n0,n1,n2,n3,n4⟩:=HY.out.five hdk
     clear hck hdk HC HD
     generalize PG.rn cc=x0 at*
     generalize PG.kd cc=x1 at*
     generalize (PG.pn cc).1=x2 at*
     generalize (PG.pn cc).2.1=x3 at*
     generalize (PG.pn cc).2.2=x4 at*
     go_wp2_with fail
     go_quiet (fail)
     go_wp2
     go_roundw
     case rel=>exact⟨k+1,_,by omega,by go_num,rfl,HN.out⟩
     case measure=>simp [intOf];omega
    ·have hne: ∀w',(binOp .neq 66 (.agg #[.int .i32 (PG.rn cc),.int .i64 (PG.kd cc),.int .i64 (PG.pn cc).1,.int .i64 (PG.pn cc).2.1,.int .i64 (PG.pn cc).2.2]) (.agg #[.int .i32 (PG.rn dd),.int .i64 (PG.kd dd),.int .i64 (PG.pn dd).1,.int .i64 (PG.pn dd).2.1,.int .i64 (PG.pn dd).2.2])).run Tryz.prog w'=.ok (.bool true) w':=fun w'=>by
      rw [Yc]
      have hf:(PG.rn cc==PG.rn dd&&PG.kd cc==PG.kd dd&&(PG.pn cc).1==(PG.pn dd).1&&(PG.pn cc).2.1==(PG.pn dd).2.1&&(PG.pn cc).2.2==(PG.pn dd).2.2)=false:=by
       rw [Bool.eq_false_iff]
       intro h
       simp only [Bool.and_eq_true,beq_iff_eq] at h
       obtain⟨⟨⟨⟨h1,h2⟩,h3⟩,h4⟩,h5⟩:=h
       exact hcd (Prod.ext h1 (Prod.ext h2 (Prod.ext h3 (Prod.ext h4 h5))))
      rw [hf]
      rfl
     have hbf:b=false:=by
      cases b with
      | false=>rfl
      | true=>
       have:=HB.out.1 rfl
       rw [this,hdk] at hck
       exact absurd (Option.some.inj hck).symm hcd
     subst hbf
     obtain⟨ad,rfl,_,d0,d1,d2,d3,d4⟩:=HX.out.five hck
     obtain⟨ad',rfl,_,n0,n1,n2,n3,n4⟩:=HY.out.five hdk
     clear hck hdk HC HD hcd
     generalize PG.rn cc=x0 at*
     generalize PG.kd cc=x1 at*
     generalize (PG.pn cc).1=x2 at*
     generalize (PG.pn cc).2.1=x3 at*
     generalize (PG.pn cc).2.2=x4 at*
     generalize PG.rn dd=z0 at*
     generalize PG.kd dd=z1 at*
     generalize (PG.pn dd).1=z2 at*
     generalize (PG.pn dd).2.1=z3 at*
     generalize (PG.pn dd).2.2=z4 at*
     go_wp2_with fail
     go_quiet (fail)
     go_wp2
     go_ret
     exact⟨rfl,q+nq,by simp [World.drewN,Nat.add_assoc]⟩
   ·go_wp2
    have hbt:b=true:=HB.out.2 (by
     have h:=HT.out
     rw [List.take_of_length_le (by have:=HL.out;omega),List.take_of_length_le (by have:=HM.out;omega)] at h
     exact h)
    subst hbt
    go_ret
    exact⟨rfl,q,rfl⟩
 ·have hbf:b=false:=by
   cases b with
   | false=>rfl
   | true=>
    have:=hb.1 rfl
    subst this
    exact absurd (e1.symm.trans e2) hnm
  subst hbf
  have hnm':((n:Int)==(m:Int))=false:=by simp;omega
  go_enter Tryz.func132,Tryz.ntmps132
  go_wp2
  go_ret
  exact⟨rfl,0,rfl⟩
theorem gI (R K R' K':Nat) (l l':List PG.Cl) (A A':Option Addr) (B B' n c m c':Nat) (b:Bool) (w:World) (hx:Au w B A n l) (hy:Au w B' A' m l') (hB:B<=w.heap.size) (hB':B'<=w.heap.size) (hn:n<=9223372036854775807) (hm:m<=9223372036854775807) (hb:b=true<->R=R'/\K=K'/\l=l'):
  Calls Tryz.prog 99 #[gv R K (.slice A n c),gv R' K' (.slice A' m c')] w fun e w'=>e=.returned (.bool b)/\Below w.heap.size w w':=by
 unfold gv
 have bb:=((Below.refl w.heap.size w).alloc (Nat.le_refl _) (.cells #[.int .i64 R,.int .i64 K,.slice A n c] 37)).alloc (by simp) (.cells #[.int .i64 R',.int .i64 K',.slice A' m c'] 37)
 by_cases hR:R=R'
 ·subst hR
  by_cases hK:K=K'
  ·subst hK
   have SC:=hide (fun w' (hb':Below w.heap.size w w')=>NA l l' A A' B B' n c m c' b w' (hx.below (hb'.mono hB)) (hy.below (hb'.mono hB')) hn hm (hb.trans ⟨fun h=>h.2.2,fun h=>⟨rfl,rfl,h⟩⟩))
   have BB:=hide bb
   clear hx hy hb bb
   go_enter Tryz.func99,Tryz.ntmps99
   go_wp2_with (
    go_at_call 132
    go_must (refine(SC.out _ (((Below.refl _ _).alloc (Nat.le_refl _) _).alloc (by simp) _)).mono ?_)
    rintro e w1 ⟨rfl,q,rfl⟩)
   go_ret
   have b:=BB.out
   exact⟨rfl,⟨b.os,b.tape,b.output,b.size,b.block⟩⟩
  ·have hbf:b=false:=by
    cases b with
    | false=>rfl
    | true=>exact absurd (hb.1 rfl).2.1 hK
   subst hbf
   have hK':((K:Int)==(K':Int))=false:=by simp;omega
   have BB:=hide bb
   clear hx hy hb bb
   go_enter Tryz.func99,Tryz.ntmps99
   go_wp2_with fail
   go_ret
   have b:=BB.out
   exact⟨rfl,⟨b.os,b.tape,b.output,b.size,b.block⟩⟩
 ·have hbf:b=false:=by
   cases b with
   | false=>rfl
   | true=>exact absurd (hb.1 rfl).1 hR
  subst hbf
  have hR':((R:Int)==(R':Int))=false:=by simp;omega
  have BB:=hide bb
  clear hx hy hb bb
  go_enter Tryz.func99,Tryz.ntmps99
  go_wp2_with fail
  go_ret
  have b:=BB.out
  exact⟨rfl,⟨b.os,b.tape,b.output,b.size,b.block⟩⟩
theorem Ym {G H:PG.Gr} {v v':Value} {w:World} (b:Bool) (h:IsG w G v) (h':IsG w H v') (hb:b=true<->PG.Alike G H):Calls Tryz.prog 99 #[v,v'] w fun e w'=>e=.returned (.bool b)/\Below w.heap.size w w':=by
 obtain⟨A,cp,rfl,hl,h1,h2⟩:=h.open_
 obtain⟨A',cp',rfl,hl',h1',h2'⟩:=h'.open_
 unfold maxLen at h2 h2'
 exact gI G.rows G.AB H.rows H.AB _ _ A A' _ _ _ cp _ cp' b w hl hl' (Nat.le_refl _) (Nat.le_refl _) (by omega) (by omega) (hb.trans PG.Ke)
end Go.Proofs.YtoaabebgmdbjeaaGreatDoor
