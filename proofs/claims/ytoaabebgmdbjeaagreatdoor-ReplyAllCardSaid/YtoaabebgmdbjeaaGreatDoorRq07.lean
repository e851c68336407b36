/- A part of the proof: GridRefNew, GridUse. -/
import Derived.Test.YtoaabebgmdbjeaaGreatDoorRq06
import Derived.Deep.RegionLaw
import Derived.Lib.SliceRun
import Derived.StillTailTactics
import Derived.Lib.OthersKept
set_option maxRecDepth 100000
set_option maxHeartbeats 16000000
set_option linter.unusedVariables false
namespace Go.Proofs.YtoaabebgmdbjeaaGreatDoor
open Go.RowKit
theorem Hw {w w':World} {base size n:Nat} {e:TypeId} {v:Value} {xs:List Value} (h:w.ownsRow base e size v n xs) (hb:Below w.heap.size w w'):w'.ownsRow base e size v n xs:=Bl h (Kept.of_below (L:= []) hb) (by simp)
end Go.Proofs.YtoaabebgmdbjeaaGreatDoor
namespace Go.Proofs.YtoaabebgmdbjeaaGreatDoor
open Go.RowKit
theorem OQ {n k:Nat} (h:Nat->PG.Cl) (v:PG.Cl):((List.range n).map h).set k v=(List.range n).map (fun j=>if j=k then v else h j):=by
 refine List.ext_getElem? fun j=>?_
 by_cases hj:j<n
 ·by_cases e:j=k
  ·subst e
   rw [List.getElem?_set_self (by simpa using hj),PG.EZ hj,if_pos rfl]
  ·rw [List.getElem?_set_ne (by omega),PG.EZ hj,PG.EZ hj,if_neg e]
 ·rw [List.getElem?_eq_none (by rw [List.length_set];simp;omega),List.getElem?_eq_none (by simp;omega)]
theorem Qh: ∀(l:List PG.Cl) (k:Nat) (x d:Int) (p:PG.Pn) (d':Int),l[k]? =some (x,d,p)->(Ag l).set (k*5+1) (.int .i64 d')=Ag (l.set k (x,d',p))
 | [],k,x,d,p,d',h=>by simp at h
 | c::l,0,x,d,p,d',h=>by
  simp at h
  subst h
  rfl
 | c::l,k+1,x,d,p,d',h=>by
  have ih:=Qh l k x d p d' (by simpa using h)
  rw [List.set_cons_succ,Ce,Ce, <- ih,List.set_append_right _ _ (by show 5<=_;omega)]
  congr 2
  show(k+1)*5+1-5=k*5+1
  omega
theorem Yl {w:World} {base n g cap:Nat} {e:TypeId} {l:List PG.Cl} (h:w.ownsRow base e 5 (.slice (some ⟨g,0,none⟩) n cap) n (Ag l)) {k:Nat} {x d:Int} {p:PG.Pn} (hk:l[k]? =some (x,d,p)) (d':Int):
  (w.setCell ⟨g,k*5+1,none⟩ (.int .i64 d')).ownsRow base e 5 (.slice (some ⟨g,0,none⟩) n cap) n (Ag (l.set k (x,d',p)))/\w.grownBy (w.setCell ⟨g,k*5+1,none⟩ (.int .i64 d')) (some g):=by
 have s:=h.stored (k*5+1) (.int .i64 d')
 rw [Qh l k x d p d' hk] at s
 exact s
def mid (f:Nat->PG.Cl) (c:Nat) (x:Int) (p:PG.Pn) (w:Nat) (j:Nat):PG.Cl:=if j+1=c/\PG.kd (f c)=2 then PG.blank (PG.pn (f j)) else PG.over f c x p w j
def MR (w:World) (R K n cp g cap:Nat) (A:Option Addr) (p:PG.Pn) (h:Nat->PG.Cl) (wx:World):Prop:=
 Box wx w.heap.size 37 #[.int .i64 R,.int .i64 K,.slice A n cp] /\Box wx (w.heap.size+1) 38 #[.int .i64 p.1,.int .i64 p.2.1,.int .i64 p.2.2] /\Box wx (w.heap.size+1+1) 37 #[.int .i64 0,.int .i64 0,.slice none 0 0] /\
  wx.ownsRow w.heap.size 66 5 (.slice (some ⟨g,0,none⟩) K cap) K (Ag ((List.range K).map h))/\Below w.heap.size w wx
theorem MR.set {w wx:World} {R K n cp g cap:Nat} {A:Option Addr} {p:PG.Pn} {h:Nat->PG.Cl} (H:MR w R K n cp g cap A p h wx) {k:Nat} (hk:k<K) (v:PG.Cl):
  MR w R K n cp g cap A p (fun j=>if j=k then v else h j) (Cm wx g (k*5) v):=by
 obtain⟨x0,x1,x2,ho,hb⟩:=H
 have S:=E5 ho (k:=k) v hk (by simp)
 refine⟨x0.grown S.2 (fun e=>Ac ho x0 (by decide) e.symm),x1.grown S.2 (fun e=>Ac ho x1 (by decide) e.symm),x2.grown S.2 (fun e=>Ac ho x2 (by decide) e.symm),?_,hb.grown S.2 hb.size (by rintro _ ⟨⟩;exact(ho.lt g rfl).1)⟩
 rw [<- OQ]
 exact S.1
theorem MR.kind {w wx:World} {R K n cp g cap:Nat} {A:Option Addr} {p:PG.Pn} {h:Nat->PG.Cl} (H:MR w R K n cp g cap A p h wx) {k:Nat} (hk:k<K) {x d:Int} {q:PG.Pn} (e:h k=(x,d,q)) (d':Int):
  MR w R K n cp g cap A p (fun j=>if j=k then (x,d',q) else h j) (wx.setCell ⟨g,k*5+1,none⟩ (.int .i64 d')):=by
 obtain⟨x0,x1,x2,ho,hb⟩:=H
 have S:=Yl ho (k:=k) (x:=x) (d:=d) (p:=q) (by rw [PG.EZ hk,e]) d'
 refine⟨x0.grown S.2 (fun e=>Ac ho x0 (by decide) e.symm),x1.grown S.2 (fun e=>Ac ho x1 (by decide) e.symm),x2.grown S.2 (fun e=>Ac ho x2 (by decide) e.symm),?_,hb.grown S.2 hb.size (by rintro _ ⟨⟩;exact(ho.lt g rfl).1)⟩
 rw [<- OQ]
 exact S.1
theorem MR.call {w wx wy:World} {R K n cp g cap:Nat} {A:Option Addr} {p:PG.Pn} {h:Nat->PG.Cl} (H:MR w R K n cp g cap A p h wx) (b:Below wx.heap.size wx wy):MR w R K n cp g cap A p h wy:=by
 obtain⟨x0,x1,x2,ho,hb⟩:=H
 exact⟨x0.below b x0.lt,x1.below b x1.lt,x2.below b x2.lt,Hw ho b,hb.trans (b.mono hb.size)⟩
theorem MR.five {w wx:World} {R K n cp g cap:Nat} {A:Option Addr} {p:PG.Pn} {h:Nat->PG.Cl} (H:MR w R K n cp g cap A p h wx) {k:Nat} (hk:k<K):
  wx.cell? ⟨g,k*5,none⟩=some (.int .i32 (PG.rn (h k)))/\wx.cell? ⟨g,k*5+1,none⟩=some (.int .i64 (PG.kd (h k)))/\wx.cell? ⟨g,k*5+2,none⟩=some (.int .i64 (PG.pn (h k)).1)/\wx.cell? ⟨g,k*5+3,none⟩=some (.int .i64 (PG.pn (h k)).2.1)/\wx.cell? ⟨g,k*5+4,none⟩=some (.int .i64 (PG.pn (h k)).2.2)/\
  wx.frozen? ⟨g,k*5,none⟩=false/\wx.frozen? ⟨g,k*5+1,none⟩=false/\wx.frozen? ⟨g,k*5+2,none⟩=false/\wx.frozen? ⟨g,k*5+3,none⟩=false/\wx.frozen? ⟨g,k*5+4,none⟩=false:=
 Il H.2.2.2.1 (PG.EZ hk)
end Go.Proofs.YtoaabebgmdbjeaaGreatDoor
namespace Go.Proofs.YtoaabebgmdbjeaaGreatDoor
open Go.RowKit
end Go.Proofs.YtoaabebgmdbjeaaGreatDoor
namespace Go.Proofs.YtoaabebgmdbjeaaGreatDoor
open Go.RowKit
namespace PG
end PG
structure OT (w:World) (G:PG.Gr) (n cp R K N gt k:Nat) (ad:Addr) (v:Value) (wx:World):Prop where
 box0:Box wx w.heap.size 37 #[.int .i64 G.rows,.int .i64 G.AB,.slice (some ad) n cp]
 Km:Box wx (w.heap.size+1) 37 #[.int .i64 0,.int .i64 0,.slice none 0 0]
 Gf:Box wx gt 37 #[.int .i64 R,.int .i64 K,v]
 own:wx.ownsRow w.heap.size 66 5 v N (Ag (PG.cells (PG.lY G R K k)))
 below:Below w.heap.size w wx
theorem OT.call {w wx wy:World} {G:PG.Gr} {n cp R K N gt k:Nat} {ad:Addr} {v:Value} (h:OT w G n cp R K N gt k ad v wx) (b:Below wx.heap.size wx wy):OT w G n cp R K N gt k ad v wy:=
 ⟨h.box0.below b h.box0.lt,h.Km.below b h.Km.lt,h.Gf.below b h.Gf.lt,Hw h.own b,h.below.trans (b.mono h.below.size)⟩
theorem OT.grown {w wx wy:World} {G:PG.Gr} {n cp R K N gt k:Nat} {ad:Addr} {v:Value} (h:OT w G n cp R K N gt k ad v wx) {g' n' m:Nat} {v':Value} {xs:List Value} (o:wx.ownsRow m 66 5 v' n' xs) (hv:v'.ownBlock=some g') (hne:v.ownBlock≠some g') (hm:w.heap.size<=g') (b:wx.grownBy wy (some g')):OT w G n cp R K N gt k ad v wy:=
 ⟨h.box0.grown b (fun e=>Ac o h.box0 (by decide) (hv.trans e.symm)),h.Km.grown b (fun e=>Ac o h.Km (by decide) (hv.trans e.symm)),h.Gf.grown b (fun e=>Ac o h.Gf (by decide) (hv.trans e.symm)),
  Bl h.own (Kept.J4 b) (fun q hq hm=>hne (by simp at hm;rw [hq,hm])),h.below.grown b h.below.size (by rintro _ ⟨⟩;exact hm)⟩
end Go.Proofs.YtoaabebgmdbjeaaGreatDoor
namespace Go.Proofs.YtoaabebgmdbjeaaGreatDoor
open Go.RowKit
theorem TA (l:List PG.Cl) (A A':Option Addr) (B B' n c m c':Nat) (w:World) (hx:BJ w B A n l) (hy:BJ w B' A' m l) (hn:n<=1099511627776):
  Calls Tryz.prog 40 #[.slice A n c,.slice A' m c'] w fun e w'=>e=.returned (.bool true)/\ ∃q,w.drewN q=w':=by
 have e1:=hx.len
 have e2:=hy.len
 subst e1
 obtain rfl:=e2
 generalize hN:l.length=n at*
 have HX:=hide hx
 have HY:=hide hy
 clear hx hy
 go_enter Tryz.func40,Tryz.ntmps40
 go_wp2
 go_loopw [5] (fun i wr=> ∃k q:Nat,k<=n/\i=.int .i64 k/\wr=w.drewN q) (fun i _=>n-(intOf i).toNat)
 case atStart=>exact⟨0,0,Nat.zero_le _,rfl,rfl⟩
 case round=>
  obtain⟨k,q,hk,rfl,rfl⟩:=hrel
  by_cases hlt:k<n
  ·have hck:l[k]? =some l[k] :=List.getElem?_eq_getElem (by omega)
   generalize l[k] =cc at hck
   obtain⟨ad,rfl,_,d0,d1,d2,d3,d4⟩:=HX.out.five hck
   obtain⟨ad',rfl,_,n0,n1,n2,n3,n4⟩:=HY.out.five hck
   generalize PG.rn cc=x0 at*
   generalize PG.kd cc=x1 at*
   generalize (PG.pn cc).1=x2 at*
   generalize (PG.pn cc).2.1=x3 at*
   generalize (PG.pn cc).2.2=x4 at*
   clear hck
   go_wp2_with fail
   go_quiet (fail)
   go_wp2
   go_roundw
   case rel=>exact⟨k+1,_,by omega,by go_num,rfl⟩
   case measure=>simp [intOf];omega
  ·go_wp2
   go_ret
   exact⟨rfl,q,rfl⟩
end Go.Proofs.YtoaabebgmdbjeaaGreatDoor
namespace Go.Proofs.YtoaabebgmdbjeaaGreatDoor
open Go.RowKit
end Go.Proofs.YtoaabebgmdbjeaaGreatDoor
namespace Go.Proofs.YtoaabebgmdbjeaaGreatDoor
open Go.RowKit
def IsG (w:World) (G:PG.Gr) (v:Value):Prop:= ∃s,v=gv G.rows G.AB s/\w.ownsRow 0 66 5 s (G.rows*G.AB) (Ag (PG.cells G))
theorem IsG.low {w w':World} {G:PG.Gr} {v:Value} (h:IsG w G v) (b:Below w.heap.size w w'):IsG w' G v:=by
 obtain⟨s,h1,h2⟩:=h
 exact⟨s,h1,Hw h2 b⟩
theorem IsG.kept {w w':World} {G:PG.Gr} {v:Value} {g:Nat} {T:TypeId} {cs:Array Value} (h:IsG w G v) (hb:Box w g T cs) (hT:T≠66) (k:Kept [some g] w w'):IsG w' G v:=by
 obtain⟨s,h1,h2⟩:=h
 exact⟨s,h1,Bl h2 k (fun b hb' hm=>Ac h2 hb (Ne.symm hT) (by simp at hm;rw [hb',hm]))⟩
def Cq (w:World) (g:Nat) (x y z:Value):World:=((w.setCell ⟨g,0,none⟩ x).setCell ⟨g,1,none⟩ y).setCell ⟨g,2,none⟩ z
theorem Ym {cs:Array Value} (hs:cs.size=3): ∃x y z,cs= #[x,y,z] :=by
 obtain⟨l⟩:=cs
 rcases l with _ | ⟨x,_ | ⟨y,_ | ⟨z,_ | ⟨u,l⟩⟩⟩⟩<;>simp at hs
 exact⟨x,y,z,rfl⟩
theorem MS {w:World} {g:Nat} {T:TypeId} {cs:Array Value} (h:Box w g T cs) (hs:cs.size=3) (x y z:Value):Box (Cq w g x y z) g T #[x,y,z] :=by
 obtain⟨a,b,c,rfl⟩:=Ym hs
 exact h.Cq x y z
theorem J8 {w:World} {g g':Nat} {T:TypeId} {cs:Array Value} (h:Box w g T cs) (hne:g≠g') (x y z:Value):Box (Cq w g' x y z) g T cs:=h.Gc hne x y z
theorem Vy (w:World) (g:Nat) (x y z:Value):Kept [some g] w (Cq w g x y z):=
 (((Kept.refl _ w).setCell (p:=⟨g,0,none⟩) (From.mem (by simp)) _).setCell (p:=⟨g,1,none⟩) (From.mem (by simp)) _).setCell (p:=⟨g,2,none⟩) (From.mem (by simp)) _
abbrev Shape:=List (Nat × Nat × Nat × Nat)
def skd (sh:Shape) (j:Nat):Nat:=(sh.getD j (0,0,0,0)).1
def sba (sh:Shape) (j:Nat):Nat:=(sh.getD j (0,0,0,0)).2.1
def sva (sh:Shape) (j:Nat):Nat:=(sh.getD j (0,0,0,0)).2.2.1
def sty (sh:Shape) (j:Nat):Nat:=(sh.getD j (0,0,0,0)).2.2.2
def MU (ops:Array Oper) (i j:Nat):Bool:=((ops[i]?).map fun o=>o.after.any fun e=>Region.binds .any e&&e.on==j).getD false
def Li (sh:Shape) (ops:Array Oper):Bool:=sh.length==ops.size&&(List.range ops.size).all fun j=>
 (!(skd sh j==3)||(MU ops j (sba sh j)&&MU ops j (sva sh j)&&skd sh (sba sh j)==2&&sty sh (sba sh j)==sty sh j&&sty sh j !=66&&Nat.blt (sva sh j) ops.size&&(List.range j).all fun i=> !(skd sh i==3&&sba sh i==sba sh j)))&&
 (!(skd sh j==4)||(MU ops j (sva sh j)&&sty sh j !=66&&Nat.blt (sva sh j) ops.size))
def Holds (w0:World) (sh:Shape) (vals:Nat->Value) (grs:Nat->PG.Gr) (gs:Nat->Nat) (j:Nat) (u:Nat->Value) (w:World):Prop:=
 (skd sh j=0->u j=vals j)/\
 (skd sh j=1->IsG w (grs j) (u j))/\
 (skd sh j=2-> ∃g cs,u j=.pointer (some ⟨g,0,none⟩)/\w0.heap.size<=g/\Box w g (sty sh j) cs/\cs.size=3)/\
 (skd sh j=3-> ∃g x y z,u (sba sh j)=.pointer (some ⟨g,0,none⟩)/\u (sva sh j)=.agg #[x,y,z] /\Box w g (sty sh j) #[x,y,z])/\
 (skd sh j=4-> ∃x y z,u (sva sh j)=.agg #[x,y,z] /\Box w (gs j) (sty sh j) #[x,y,z])
structure RJ (ops:Array Oper) (S:List (Option Nat)) (w0:World) (olds:Nat->Array Value) (sh:Shape) (vals:Nat->Value) (grs:Nat->PG.Gr) (gs:Nat->Nat) (L:Nat->Bool) (u:Nat->Value) (w:World):Prop where
 kept:Kept S w0 w
 old: ∀j,skd sh j=4->L j=false->Box w (gs j) (sty sh j) (olds j)
 dist: ∀i j,skd sh i=2->skd sh j=2->L i=true->L j=true->i≠j->u i≠u j
 all: ∀j,j<ops.size->L j=true->Holds w0 sh vals grs gs j u w
structure RS (ops:Array Oper) (S:List (Option Nat)) (w0:World) (olds:Nat->Array Value) (sh:Shape) (gs:Nat->Nat):Prop where
 shape:Li sh ops=true
 inS: ∀j,skd sh j=4->some (gs j)∈S/\gs j<w0.heap.size/\(olds j).size=3
 ne4: ∀i j,skd sh i=4->skd sh j=4->i≠j->gs i≠gs j
section
variable {ops:Array Oper} {S:List (Option Nat)} {w0:World} {olds:Nat->Array Value} {sh:Shape} {vals:Nat->Value} {grs:Nat->PG.Gr} {gs:Nat->Nat}
theorem Io (hs:RS ops S w0 olds sh gs) {j:Nat} (h:skd sh j≠0):j<ops.size:=by
 have hl:=hs.shape
 unfold Li at hl
 simp only [Bool.and_eq_true,beq_iff_eq] at hl
 rcases Nat.lt_or_ge j ops.size with h1 | h1
 ·exact h1
 ·exfalso
  apply h
  unfold skd
  rw [List.getD_eq_getElem?_getD,List.getElem?_eq_none (by omega)]
  rfl
theorem Kn (hs:RS ops S w0 olds sh gs) {j:Nat} (h:skd sh j=3):MU ops j (sba sh j)=true/\MU ops j (sva sh j)=true/\skd sh (sba sh j)=2/\sty sh (sba sh j)=sty sh j/\sty sh j≠66/\sva sh j<ops.size/\ ∀i,i<j->skd sh i=3->sba sh i≠sba sh j:=by
 have hj:=Io hs (j:=j) (by omega)
 have hl:=hs.shape
 unfold Li at hl
 simp only [Bool.and_eq_true] at hl
 have:=List.all_eq_true.1 hl.2 j (by simpa using hj)
 simp only [Bool.and_eq_true,Bool.or_eq_true,Bool.not_eq_true',beq_eq_false_iff_ne,beq_iff_eq,bne_iff_ne,ne_eq,Nat.blt_eq] at this
 rcases this.1 with h1 | ⟨⟨⟨⟨⟨⟨h1,h2⟩,h3⟩,h4⟩,h5⟩,h7⟩,h6⟩
 ·exact absurd h h1
 ·refine⟨h1,h2,h3,h4,h5,h7,fun i hi hk e=>?_⟩
  have:=List.all_eq_true.1 h6 i (by simpa using hi)
  simp [hk,e] at this
theorem PE (hs:RS ops S w0 olds sh gs) {j:Nat} (h:skd sh j=4):MU ops j (sva sh j)=true/\sty sh j≠66/\sva sh j<ops.size:=by
 have hj:=Io hs (j:=j) (by omega)
 have hl:=hs.shape
 unfold Li at hl
 simp only [Bool.and_eq_true] at hl
 have:=List.all_eq_true.1 hl.2 j (by simpa using hj)
 simp only [Bool.and_eq_true,Bool.or_eq_true,Bool.not_eq_true',beq_eq_false_iff_ne,beq_iff_eq,bne_iff_ne,ne_eq,Nat.blt_eq] at this
 rcases this.2 with h1 | ⟨⟨h1,h2⟩,h3⟩
 ·exact absurd h h1
 ·exact⟨h1,h2,h3⟩
theorem came {L:Nat->Bool} (hcl:Closed ops L) {i j:Nat} (h:L i=true) (hd:MU ops i j=true):L j=true:=by
 refine AZ (ops:=ops) (i:=i) (fun o ho e he hb=>hcl i h o ho e he hb) j hd
variable {L:Nat->Bool} {u:Nat->Value} {w w':World}
theorem RJ.same {u':Nat->Value} (hs:RS ops S w0 olds sh gs) (h:RJ ops S w0 olds sh vals grs gs L u w) (he: ∀j,j<ops.size->u j=u' j):RJ ops S w0 olds sh vals grs gs L u' w:=by
 refine⟨h.kept,h.old,fun i j hi hj li lj hne=>by rw [<- he i (Io hs (by omega)), <- he j (Io hs (by omega))];exact h.dist i j hi hj li lj hne,fun j hl hj=>?_⟩
 obtain⟨a,b,c,d,e⟩:=h.all j hl hj
 refine⟨fun k=>by rw [<- he j hl];exact a k,fun k=>by rw [<- he j hl];exact b k,fun k=>by rw [<- he j hl];exact c k,fun k=>?_,fun k=>?_⟩
 ·obtain⟨_,_,s3,_,_,s6,_⟩:=Kn hs k
  rw [<- he _ (Io hs (j:=sba sh j) (by omega)), <- he _ s6]
  exact d k
 ·rw [<- he _ (PE hs k).2.2]
  exact e k
theorem RJ.low (hs:RS ops S w0 olds sh gs) (h:RJ ops S w0 olds sh vals grs gs L u w) (hcl:Closed ops L) {i:Nat} (hL:L i=false) (b:Below w.heap.size w w') (v:Value) (hk4:skd sh i≠4)
  (hd2:skd sh i=2-> ∀j,skd sh j=2->L j=true->u j≠v) (hi:Holds w0 sh vals grs gs i (upd u i v) w'):RJ ops S w0 olds sh vals grs gs (mark L i) (upd u i v) w':=by
 have hu: ∀j,L j=true->upd u i v j=u j:=fun j hj=>Fa (fun e=>by rw [e,hL] at hj;cases hj)
 have hm: ∀j,mark L i j=true->j=i\/L j=true:=fun j hj=>by
  by_cases e:j=i
  ·exact .inl e
  ·rw [Eo e] at hj;exact .inr hj
 refine⟨h.kept.below b,fun j hk hj=>?_,fun a c ha hc la lc hne=>?_,fun j hl hj=>?_⟩
 ·have hj':L j=false:=by
   by_cases e:j=i
   ·rw [e,G5] at hj;cases hj
   ·rwa [Eo e] at hj
  have hb:=h.old j hk hj'
  exact hb.below b hb.lt
 ·rcases hm a la with rfl | la'
  ·rcases hm c lc with rfl | lc'
   ·exact absurd rfl hne
   ·rw [EW,hu c lc']
    exact fun e=>hd2 ha c hc lc' e.symm
  ·rcases hm c lc with rfl | lc'
   ·rw [EW,hu a la']
    exact hd2 hc a ha la'
   ·rw [hu a la',hu c lc']
    exact h.dist a c ha hc la' lc' hne
 ·rcases hm j hj with rfl | hj'
  ·exact hi
  ·obtain⟨a,c,d,e,f⟩:=h.all j hl hj'
   refine⟨fun k=>by rw [hu j hj'];exact a k,fun k=>by rw [hu j hj'];exact(c k).low b,fun k=>?_,fun k=>?_,fun k=>?_⟩
   ·obtain⟨g,cs,k1,k2,k3,k4⟩:=d k
    exact⟨g,cs,by rw [hu j hj'];exact k1,k2,k3.below b k3.lt,k4⟩
   ·obtain⟨g,x,y,z,k1,k2,k3⟩:=e k
    obtain⟨s1,s2,_⟩:=Kn hs k
    exact⟨g,x,y,z,by rw [hu _ (came hcl hj' s1)];exact k1,by rw [hu _ (came hcl hj' s2)];exact k2,k3.below b k3.lt⟩
   ·obtain⟨x,y,z,k1,k2⟩:=f k
    exact⟨x,y,z,by rw [hu _ (came hcl hj' (PE hs k).1)];exact k1,k2.below b k2.lt⟩
theorem RJ.val (hs:RS ops S w0 olds sh gs) (h:RJ ops S w0 olds sh vals grs gs L u w) (hcl:Closed ops L) {i:Nat} (hL:L i=false) (hk:skd sh i=0) (b:Below w.heap.size w w') (v:Value) (hv:vals i=v):RJ ops S w0 olds sh vals grs gs (mark L i) (upd u i v) w':=
 h.low hs hcl hL b v (by omega) (fun e=>by omega) ⟨fun _=>by rw [EW,hv],fun e=>by omega,fun e=>by omega,fun e=>by omega,fun e=>by omega⟩
theorem RJ.box (hs:RS ops S w0 olds sh gs) (h:RJ ops S w0 olds sh vals grs gs L u w) (hcl:Closed ops L) {i:Nat} (hL:L i=false) (hk:skd sh i=2) (T:TypeId) (hT:sty sh i=T) (x y z:Value):RJ ops S w0 olds sh vals grs gs (mark L i) (upd u i (.pointer (some ⟨w.heap.size,0,none⟩))) (w.alloc (.cells #[x,y,z] T)):=by
 subst hT
 refine h.low hs hcl hL ((Below.refl _ _).alloc (Nat.le_refl _) _) _ (by omega) (fun _ j hj lj e=>?_) ⟨fun e=>by omega,fun e=>by omega,fun _=>⟨_,_,EW,h.kept.size,Box.new w _ _,rfl⟩,fun e=>by omega,fun e=>by omega⟩
 obtain⟨g,cs,k1,k2,k3,k4⟩:=(h.all j (Io hs (by omega)) lj).2.2.1 hj
 rw [k1] at e
 cases e
 exact absurd k3.lt (Nat.lt_irrefl _)
theorem RJ.hit (hs:RS ops S w0 olds sh gs) (h:RJ ops S w0 olds sh vals grs gs L u w) (hcl:Closed ops L) {i g:Nat} {T:TypeId} {cs:Array Value} (hL:L i=false) (hb:Box w g T cs) (hsz:cs.size=3) (hT:T≠66) (x y z:Value) (hk:skd sh i=3\/skd sh i=4)
  (hS:From w0 S (some g)) (h4: ∀j,j≠i->skd sh j=4->gs j≠g) (h3: ∀j,j≠i->skd sh j=3->L j=true-> ∀g',u (sba sh j)=.pointer (some ⟨g',0,none⟩)->g'≠g) (hi:Holds w0 sh vals grs gs i (upd u i undef) (Cq w g x y z)):
  RJ ops S w0 olds sh vals grs gs (mark L i) (upd u i undef) (Cq w g x y z):=by
 have hu: ∀j,L j=true->upd u i undef j=u j:=fun j hj=>Fa (fun e=>by rw [e,hL] at hj;cases hj)
 have hm: ∀j,mark L i j=true->j=i\/L j=true:=fun j hj=>by
  by_cases e:j=i
  ·exact .inl e
  ·rw [Eo e] at hj;exact .inr hj
 have hk2:=Vy w g x y z
 refine⟨h.kept.trans hk2 (by simpa using hS),fun j hk hj=>?_,fun a c ha hc la lc hne=>?_,fun j hl hj=>?_⟩
 ·by_cases e:j=i
  ·rw [e,G5] at hj;cases hj
  ·rw [Eo e] at hj
   exact J8 (h.old j hk hj) (h4 j e hk) x y z
 ·rcases hm a la with rfl | la'
  ·omega
  ·rcases hm c lc with rfl | lc'
   ·omega
   ·rw [hu a la',hu c lc']
    exact h.dist a c ha hc la' lc' hne
 ·rcases hm j hj with rfl | hj'
  ·exact hi
  ·have hji:j≠i:=fun e=>by rw [e,hL] at hj';cases hj'
   obtain⟨a,c,d,e,f⟩:=h.all j hl hj'
   refine⟨fun k=>by rw [hu j hj'];exact a k,fun k=>by rw [hu j hj'];exact(c k).kept hb hT hk2,fun k=>?_,fun k=>?_,fun k=>?_⟩
   ·obtain⟨g',cs',k1,k2,k3,k4⟩:=d k
    by_cases eg:g'=g
    ·subst eg
     exact⟨g', #[x,y,z],by rw [hu j hj'];exact k1,k2,MS k3 k4 x y z,rfl⟩
    ·exact⟨g',cs',by rw [hu j hj'];exact k1,k2,J8 k3 eg x y z,k4⟩
   ·obtain⟨g',x',y',z',k1,k2,k3⟩:=e k
    obtain⟨s1,s2,_⟩:=Kn hs k
    exact⟨g',x',y',z',by rw [hu _ (came hcl hj' s1)];exact k1,by rw [hu _ (came hcl hj' s2)];exact k2,J8 k3 (h3 j hji k hj' g' k1) x y z⟩
   ·obtain⟨x',y',z',k1,k2⟩:=f k
    exact⟨x',y',z',by rw [hu _ (came hcl hj' (PE hs k).1)];exact k1,J8 k2 (h4 j hji k) x y z⟩
theorem RJ.put (hs:RS ops S w0 olds sh gs) (h:RJ ops S w0 olds sh vals grs gs L u w) (hcl:Closed ops L) {i g:Nat} (hL:L i=false) (hk:skd sh i=3) (la:L (sba sh i)=true) (lv:L (sva sh i)=true) (hg:u (sba sh i)=.pointer (some ⟨g,0,none⟩)) {x y z:Value} (hv:u (sva sh i)=.agg #[x,y,z]):
  RJ ops S w0 olds sh vals grs gs (mark L i) (upd u i undef) (Cq w g x y z):=by
 obtain⟨s1,s2,s3,s4,s5,_,s6⟩:=Kn hs hk
 obtain⟨g',cs,k1,k2,k3,k4⟩:=(h.all _ (Io hs (by omega)) la).2.2.1 s3
 rw [hg] at k1
 cases k1
 rw [s4] at k3
 have hna:sba sh i≠i:=fun e=>by rw [e,hL] at la;cases la
 have hnv:sva sh i≠i:=fun e=>by rw [e,hL] at lv;cases lv
 refine h.hit hs hcl hL k3 k4 s5 x y z (.inl hk) (fun b e=>by cases e;exact .inr k2) (fun j _ hj e=>?_) (fun j hne hj lj g' hg' e=>?_) ⟨fun e=>by omega,fun e=>by omega,fun e=>by omega,fun _=>⟨g,x,y,z,by rw [Fa hna];exact hg,by rw [Fa hnv];exact hv,MS k3 k4 x y z⟩,fun e=>by omega⟩
 ·have:=(hs.inS j hj).2.1
  omega
 ·subst e
  obtain⟨t1,t2,t3,t4,t5,_,t6⟩:=Kn hs hj
  have hd:sba sh j≠sba sh i:=by
   rcases Nat.lt_or_gt_of_ne hne with hlt | hlt
   ·exact s6 j hlt hj
   ·exact fun e=>t6 i hlt hk e.symm
  exact h.dist _ _ t3 s3 (came hcl lj t1) la hd (hg'.trans hg.symm)
theorem RJ.set (hs:RS ops S w0 olds sh gs) (h:RJ ops S w0 olds sh vals grs gs L u w) (hcl:Closed ops L) {i:Nat} (hL:L i=false) (hk:skd sh i=4) (lv:L (sva sh i)=true) {x y z:Value} (hv:u (sva sh i)=.agg #[x,y,z]):
  RJ ops S w0 olds sh vals grs gs (mark L i) (upd u i undef) (Cq w (gs i) x y z):=by
 obtain⟨s1,s2,_⟩:=PE hs hk
 obtain⟨a1,a2,a3⟩:=hs.inS i hk
 have hb:=h.old i hk hL
 have hnv:sva sh i≠i:=fun e=>by rw [e,hL] at lv;cases lv
 refine h.hit hs hcl hL hb a3 s2 x y z (.inr hk) (From.mem a1) (fun j hne hj=>hs.ne4 j i hj hk hne) (fun j hne hj lj g' hg' e=>?_) ⟨fun e=>by omega,fun e=>by omega,fun e=>by omega,fun e=>by omega,fun _=>⟨x,y,z,by rw [Fa hnv];exact hv,MS hb a3 x y z⟩⟩
 subst e
 obtain⟨t1,t2,t3,_⟩:=Kn hs hj
 obtain⟨g,cs,k1,k2,_⟩:=(h.all _ (Io hs (by omega)) (came hcl lj t1)).2.2.1 t3
 rw [hg'] at k1
 cases k1
 omega
theorem RJ.valOf (h:RJ ops S w0 olds sh vals grs gs L u w) {j:Nat} (hl:j<ops.size) (hj:L j=true) (hk:skd sh j=0) {v:Value} (hv:vals j=v):u j=v:=((h.all j hl hj).1 hk).trans hv
theorem RJ.YC (h:RJ ops S w0 olds sh vals grs gs L u w) {j:Nat} (hl:j<ops.size) (hj:L j=true) (hk:skd sh j=2): ∃g cs,u j=.pointer (some ⟨g,0,none⟩)/\w0.heap.size<=g/\Box w g (sty sh j) cs/\cs.size=3:=(h.all j hl hj).2.2.1 hk
theorem RJ.Ai (h:RJ ops S w0 olds sh vals grs gs L u w) {g:Nat} {T:TypeId} {cs:Array Value} (hb:Box w0 g T cs) (hn:some g∉S):Box w g T cs:=hb.kept h.kept hn
theorem RJ.start (hb: ∀j,skd sh j=4->Box w0 (gs j) (sty sh j) (olds j)) (u:Nat->Value):RJ ops S w0 olds sh vals grs gs (fun _=>false) u {w0 with drawn:=w0.drawn+1}:=
 ⟨(Kept.refl S w0).drew,fun j hk _=>hb j hk,(fun i j _ _ li=>by cases li),(fun j _ hj=>by cases hj)⟩
end
end Go.Proofs.YtoaabebgmdbjeaaGreatDoor
namespace Go.Proofs.YtoaabebgmdbjeaaGreatDoor
open Go.RowKit
theorem Vz (l:List Int) (A:Option Addr) (B n c i:Nat) (w:World) (hx:Seen w B A n (l.map (Value.int .i64))) (hn:n<=9223372036854775807) (hi:i<=1099511627776):
  Calls Tryz.prog 71 #[.slice A n c,.int .i64 i] w fun e w'=>e=.returned (.int .i64 (PG.pick l i))/\w=w':=by
 have hlen:l.length=n:=by simpa using hx.1
 by_cases h0:n<1
 ·have hr:PG.pick l i=0:=by
   unfold PG.pick
   rw [if_pos (List.eq_nil_of_length_eq_zero (by omega))]
  obtain rfl:n=0:=by omega
  have hr:=hide hr
  clear hx hlen h0
  go_enter Tryz.func71,Tryz.ntmps71
  go_wp2_with fail
  go_ret
  exact⟨by rw [hr.out];rfl,rfl⟩
 ·have hk:i%n<n:=Nat.mod_lt _ (by omega)
  obtain⟨ad,u,rfl,_,hu,hc⟩:=hx.at_ hk
  rw [List.getElem?_map] at hu
  obtain⟨z,hz,rfl⟩:=Option.map_eq_some_iff.1 hu
  have hr:PG.pick l i=z:=by
   unfold PG.pick
   rw [if_neg (fun e=>by subst e;simp at hlen;omega),hlen,List.getD_eq_getElem?_getD,hz]
   rfl
  have hm:(i:Int).tmod (n:Int)=((i%n:Nat):Int):=(Int.ofNat_tmod i n).symm
  have hne:((n:Int)==0)=false:=by simp;omega
  have hr:=hide hr
  clear hu hz hx hlen
  generalize i%n=j at*
  go_enter Tryz.func71,Tryz.ntmps71
  go_wp2_with fail
  go_ret
  exact⟨by rw [hr.out];rfl,rfl⟩
theorem U7 (l:List Int) (A:Option Addr) (B n c:Nat) (j:Int) (i:Nat) (hj:j=(i:Int)) (v:Int) (hv:PG.pick l i=v) (w:World) (hx:Seen w B A n (l.map (Value.int .i64))) (hn:n<=9223372036854775807) (hi:i<=1099511627776):
  Calls Tryz.prog 71 #[.slice A n c,.int .i64 j] w fun e w'=>e=.returned (.int .i64 v)/\w=w':=by
 subst hj hv
 exact Vz l A B n c i w hx hn hi
theorem U8 {l:List Int} (h: ∀x∈l, -9223372036854775808<=x/\x<=9223372036854775807) (i:Nat): -9223372036854775808<=PG.pick l i/\PG.pick l i<=9223372036854775807:=by
 unfold PG.pick
 split
 ·omega
 ·rename_i h0
  have hl:0<l.length:=List.length_pos_iff.2 h0
  have hk:i%l.length<l.length:=Nat.mod_lt _ hl
  rw [List.getD_eq_getElem?_getD,List.getElem?_eq_getElem hk]
  exact h _ (List.getElem_mem hk)
theorem PI {n:Int} (h:n.tmod 5=4):0<=n.tmod 9/\n.tmod 9<=8:=by
 have h0:=PG.QU h
 have h1:=Int.tmod_nonneg (9:Int) h0
 have h2:=Int.tmod_lt_of_pos n (b:=9) (by omega)
 omega
structure KGr (w:World) (rw cl:Int) (Ar Ap:Option Addr) (nr cr np cp R K N gt:Nat) (rs ps:List Int) (l:List PG.Cl) (v:Value) (wx:World):Prop where
 box0:Box wx w.heap.size 24 #[.int .i64 rw,.int .i64 cl,.slice Ar nr cr,.slice Ap np cp]
 Km:Box wx (w.heap.size+1) 37 #[.int .i64 0,.int .i64 0,.slice none 0 0]
 Gf:Box wx gt 37 #[.int .i64 R,.int .i64 K,v]
 own:wx.ownsRow w.heap.size 66 5 v l.length (Ag l)
 below:Below w.heap.size w wx
 ok:PG.Ok K l
 fit:l.length<=N
 rest:PG.Ed rs ps K N N l=PG.Ed rs ps K N N []
theorem KGr.call {w wx wy:World} {rw cl:Int} {Ar Ap:Option Addr} {nr cr np cp R K N gt:Nat} {rs ps:List Int} {l:List PG.Cl} {v:Value} (h:KGr w rw cl Ar Ap nr cr np cp R K N gt rs ps l v wx) (b:Below wx.heap.size wx wy):KGr w rw cl Ar Ap nr cr np cp R K N gt rs ps l v wy:=
 ⟨h.box0.below b h.box0.lt,h.Km.below b h.Km.lt,h.Gf.below b h.Gf.lt,Hw h.own b,h.below.trans (b.mono h.below.size),h.ok,h.fit,h.rest⟩
theorem KGr.grow {w wx w1:World} {rw cl:Int} {Ar Ap:Option Addr} {nr cr np cp R K N gt:Nat} {rs ps:List Int} {l m:List PG.Cl} {v:Value} {A1:Option Addr} {c1:Nat} (h:KGr w rw cl Ar Ap nr cr np cp R K N gt rs ps l v wx) (hN:N=R*K)
  (o1:w1.ownsRow w.heap.size 66 5 (.slice A1 (l.length+m.length) c1) (l.length+m.length) (Ag (l++m))) (b0:wx.grownBy w1 v.ownBlock) (hs:w.heap.size+1<gt) (hl:l.length<N) (hm:l++m=PG.EX rs ps K l):
  KGr w rw cl Ar Ap nr cr np cp R K N gt rs ps (l++m) (.slice A1 (l.length+m.length) c1) (w1.setCell ⟨gt,2,none⟩ (.slice A1 (l.length+m.length) c1)):=by
 subst hN
 obtain⟨k1,k2,k3⟩:=PG.Ig rs ps (R:=R) h.ok hl
 have hb: ∀g,v.ownBlock=some g->w.heap.size<=g:=fun g hg=>(h.own.lt g hg).1
 have y0:=h.box0.grown b0 (fun e=>Ac h.own h.box0 (by decide) e.symm)
 have y1:=h.Km.grown b0 (fun e=>Ac h.own h.Km (by decide) e.symm)
 have yT:=h.Gf.grown b0 (fun e=>Ac h.own h.Gf (by decide) e.symm)
 have nT:=Ac o1 yT (by decide)
 refine⟨y0.far (by show w.heap.size≠gt;omega) _,y1.far (by show w.heap.size+1≠gt;omega) _,by simpa using yT.set 2 (.slice A1 (l.length+m.length) c1),?_,(h.below.grown b0 h.below.size hb).setCell (show w.heap.size<=gt by omega) _,by rw [hm];exact k1,by rw [hm];exact k3,?_⟩
 ·rw [List.length_append]
  exact ownsRow_setCell_other o1 (a:=⟨gt,2,none⟩) nT _
 ·rw [hm, <- PG.QV rs ps h.ok hl (by omega)]
  exact h.rest
theorem PK (rw cl:Int) (R K nr cr np cp B:Nat) (rs ps:List Int) (Ar Ap:Option Addr) (w:World) (hR:1+rw%(5-1+1)=(R:Int)) (hK:1+cl%(9-1+1)=(K:Int)) (hr0: -9223372036854775808<=rw) (hr1:rw<=9223372036854775807) (hc0: -9223372036854775808<=cl) (hc1:cl<=9223372036854775807)
  (hs:Seen w B Ar nr (rs.map (Value.int .i64))) (hp:Seen w B Ap np (ps.map (Value.int .i64))) (hB:B<=w.heap.size) (hnr:nr<=9223372036854775807) (hnp:np<=9223372036854775807) (hsb: ∀x∈rs, -9223372036854775808<=x/\x<=9223372036854775807) (hpb: ∀x∈ps, -9223372036854775808<=x/\x<=9223372036854775807):
  Calls Tryz.prog 35 #[.agg #[.int .i64 rw,.int .i64 cl,.slice Ar nr cr,.slice Ap np cp]] w (IK w R K (PG.Df rs ps R K)):=by
 obtain⟨i0,hi,hz0,hz1,hz2⟩:=info_parts Cy
 have WR:=hide (fun w'=>BN rw 1 5 R hR w' hr0 hr1 (by omega) (by omega) (by omega))
 have WK:=hide (fun w'=>BN cl 1 9 K hK w' hc0 hc1 (by omega) (by omega) (by omega))
 have hR5:1<=R/\R<=5:=by omega
 have hK9:1<=K/\K<=9:=by omega
 have hN:R*K<=45:=Nat.mul_le_mul hR5.2 hK9.2
 have eN:(R:Int)*(K:Int)=((R*K:Nat):Int):=by simp
 have PR:=hide (fun (w':World) (i:Nat) v (hv:PG.pick rs i=v) (hb:Below w.heap.size w w') (hi:i<=45)=>U7 rs Ar B nr cr i i rfl v hv w' (hs.below (hb.mono hB)) hnr (by omega))
 have PP:=hide (fun (w':World) (j:Int) (i:Nat) v (hj:j=(i:Int)) (hv:PG.pick ps i=v) (hb:Below w.heap.size w w') (hi:i<=45)=>U7 ps Ap B np cp j i hj v hv w' (hp.below (hb.mono hB)) hnp (by omega))
 have hkw:=hide (PG.Fu rs ps R K)
 have hsb:=hide hsb
 have hpb:=hide hpb
 clear hR hK hr0 hr1 hc0 hc1 hs hp hB hnr hnp
 have hNN: ∃N,R*K=N:=⟨_,rfl⟩
 obtain⟨N,hNN⟩:=hNN
 rw [hNN] at hN eN
 have hNN:=hide hNN
 unfold IK gv
 go_enter Tryz.func35,Tryz.ntmps35
 go_wp2_with fail
 go_region_held3 (fun w'=>w'.cell? ⟨w.heap.size,0,none⟩=some (.int .i64 rw)/\w'.cell? ⟨w.heap.size,1,none⟩=some (.int .i64 cl)) (go_keep)
  (first | (go_at_call_of 20 (Value.int IntKind.i64 rw);refine(WR.out _).mono ?_;rintro e w' ⟨rfl,rfl⟩) | (go_at_call_of 20 (Value.int IntKind.i64 cl);refine(WK.out _).mono ?_;rintro e w' ⟨rfl,rfl⟩))
 go_wp2_with fail
 go_loopw [6] (fun j wr=> ∃(i:Nat) (l:List PG.Cl) (v:Value),j=.int .i64 i/\Hid (l.length=i)/\KGr w rw cl Ar Ap nr cr np cp R K N (w.heap.size+1+1) rs ps l v wr) (fun j _=>N-(intOf j).toNat)
 case atStart=>
  refine⟨0, [],.slice none 0 0,rfl,hide rfl,?_⟩
  have x0:=(((Box.new w 24 #[.int .i64 rw,.int .i64 cl,.slice Ar nr cr,.slice Ap np cp]).alloc (.cells #[.int .i64 0,.int .i64 0,.slice none 0 0] 37)).drew).alloc (.cells #[.int .i64 R,.int .i64 K,.slice none 0 0] 37)
  have x1:=((Box.new (w.alloc (.cells #[.int .i64 rw,.int .i64 cl,.slice Ar nr cr,.slice Ap np cp] 24)) 37 #[.int .i64 0,.int .i64 0,.slice none 0 0]).drew).alloc (.cells #[.int .i64 R,.int .i64 K,.slice none 0 0] 37)
  have xT:=Box.new ((w.alloc (.cells #[.int .i64 rw,.int .i64 cl,.slice Ar nr cr,.slice Ap np cp] 24)).alloc (.cells #[.int .i64 0,.int .i64 0,.slice none 0 0] 37)).drew 37 #[.int .i64 R,.int .i64 K,.slice none 0 0]
  rw [World.size_alloc] at x1
  rw [show(((w.alloc (.cells #[.int .i64 rw,.int .i64 cl,.slice Ar nr cr,.slice Ap np cp] 24)).alloc (.cells #[.int .i64 0,.int .i64 0,.slice none 0 0] 37)).drew).heap.size=w.heap.size+1+1 from by simp [World.drew]] at xT
  exact⟨x0,x1,xT,World.ownsRow_nil _ _ _ _,((((Below.refl _ _).alloc (Nat.le_refl _) _).alloc (by simp) _).drew).alloc (by simp [World.drew];omega) _,PG.YI K,Nat.zero_le _,rfl⟩
 case round=>
  obtain⟨i,l,v,rfl,hli,H⟩:=hrel
  have ho:=H.own
  rw [hli.out] at ho
  have hiN:i<=N:=by rw [<- hli.out];exact H.fit
  obtain⟨Av,cv,rfl,_,_,hblk⟩:=Bo ho
  have b2:wr.cell? ⟨w.heap.size,2,none⟩=some (.slice Ar nr cr):=H.box0.cell 2
  have b3:wr.cell? ⟨w.heap.size,3,none⟩=some (.slice Ap np cp):=H.box0.cell 3
  have l0:=H.box0.lt
  have l1:=H.Km.lt
  have lT:=H.Gf.lt
  by_cases hlt:i<N
  ·obtain⟨n,hn⟩: ∃n,PG.pick rs i=n:=⟨_,rfl⟩
   obtain⟨u,hu⟩: ∃u,PG.pick ps (i / 3)=u:=⟨_,rfl⟩
   have hnb:=U8 hsb.out i
   have hub:=U8 hpb.out (i / 3)
   rw [hn] at hnb
   rw [hu] at hub
   have PRi:=hide (fun w' hb=>PR.out w' i n hn hb (by omega))
   have PPi:=hide (fun w' j hj hb=>PP.out w' j (i / 3) u hj hu hb (by omega))
   have hd16: -9223372036854775808<=u.tdiv 16/\u.tdiv 16<=9223372036854775807:=by have h1:=Int.mul_tdiv_add_tmod u 16;have h2:=Int.tmod_lt_of_pos u (b:=16) (by omega);have h3:=Int.tmod_lt_of_pos (-u) (b:=16) (by omega);rw [Int.neg_tmod] at h3;omega
   have hd64: -9223372036854775808<=u.tdiv 64/\u.tdiv 64<=9223372036854775807:=by have h1:=Int.mul_tdiv_add_tmod u 64;have h2:=Int.tmod_lt_of_pos u (b:=64) (by omega);have h3:=Int.tmod_lt_of_pos (-u) (b:=64) (by omega);rw [Int.neg_tmod] at h3;omega
   have KP:=hide (fun w'=>Ik u (u.tdiv 16) (u.tdiv 64) w' hub.1 hub.2 hd16.1 hd16.2 hd64.1 hd64.2)
   have hstep:PG.EX rs ps K l=if n.tmod 5=4/\(i+1)%K≠0 then l++ [(19968+n.tmod 9,1,PG.Gl u),(0,2,PG.Gl u)] else l++ [(97+n%10,0,PG.Gl u)] :=by
    unfold PG.EX
    rw [hli.out,hn,hu]
   have hkp:PG.Gl u=(C.EH u,C.EH (u.tdiv 16),u.tdiv 64%256):=rfl
   rw [hkp] at hstep
   generalize C.EH u=p1 at*
   generalize C.EH (u.tdiv 16)=p2 at*
   generalize u.tdiv 64%256=p3 at*
   have hstep:=hide hstep
   have H:=hide H
   have hblk:=hide hblk
   have hsz:=H.out.below.size
   have hKz:((K:Int)==0)=false:=by simp;omega
   have hgo:=hide (show Below w.heap.size w wr from H.out.below)
   clear hkp hn hu PR PP ho
   go_upto_region 9 with (first
    | (go_at_call_of 71 (Value.slice Ar nr cr)
       go_must (refine(PRi.out _ hgo.out).mono ?_)
       rintro e w' ⟨rfl,rfl⟩)
    | (go_at_call_of 71 (Value.slice Ap np cp)
       go_must (refine(PPi.out _ _ (by omega) hgo.out).mono ?_)
       rintro e w' ⟨rfl,rfl⟩)
    | (go_at_call 36
       go_must (refine(KP.out _).mono ?_)
       rintro e w5 ⟨rfl,b5⟩
       have H5:=hide (H.out.call b5)
       clear b5 KP H))
   have xP:=Box.new w5 38 #[.int .i64 p1,.int .i64 p2,.int .i64 p3]
   have H6:=H5.out.call ((Below.refl _ w5).alloc (Nat.le_refl _) (.cells #[.int .i64 p1,.int .i64 p2,.int .i64 p3] 38))
   generalize w5.alloc (.cells #[.int .i64 p1,.int .i64 p2,.int .i64 p3] 38)=w6 at xP H6⊢
   generalize w5.heap.size=gp at xP⊢
   clear H5 PRi PPi hgo hub hd16 hd64 b2 b3 l0 l1 lT hsz
   have t2:w6.cell? ⟨w.heap.size+1+1,2,none⟩=some (.slice Av i cv):=H6.Gf.cell 2
   have fT:=H6.Gf.frozen 2
   have lT:=H6.Gf.lt
   have lp:=xP.lt
   obtain⟨P0,P1,P2,_⟩:=xP.three
   have ho:=H6.own
   rw [hli.out] at ho
   have ho:=hide ho
   have hll:l.length<N:=by rw [hli.out];exact hlt
   have hll:=hide hll
   have H6:=hide H6
   obtain⟨m,hm⟩: ∃m,(i+1)%K=m:=⟨_,rfl⟩
   have hm1:((i:Int)+1).tmod (K:Int)=(m:Int):=by rw [<- hm];exact(Int.ofNat_tmod (i+1) K).symm
   have hm2:((i:Int)+1)%(K:Int)=(m:Int):=by rw [<- Int.tmod_eq_emod_of_nonneg (by omega)];exact hm1
   by_cases h5:n.tmod 5=4
   ·by_cases hm0:m=0
    ·have hs1:=hstep.out
     rw [hm,if_neg (fun h=>h.2 hm0)] at hs1
     have q5:(n.tmod 5==4)=true:=by simpa using h5
     have qm:((m:Int)!=0)=false:=by simp;omega
     clear hstep hm h5 hm0
     obtain⟨y,hy⟩: ∃y,n%10=y:=⟨_,rfl⟩
     have hyb:0<=y/\y<=9:=by omega
     have WN:=hide (fun w'=>BN n 0 9 y (by omega) w' hnb.1 hnb.2 (by omega) (by omega) (by omega))
     rw [hy] at hs1
     have hs1:=hide hs1
     have w32:IntKind.i32.wrap (97+y)=97+y:=IntWalk.i32_in _ (by omega)
     have w64:IntKind.i64.wrap (97+y)=97+y:=IntWalk.i64_in _ (by omega)
     have t2o: ∀o,(w6.alloc o).cell? ⟨w.heap.size+1+1,2,none⟩=some (.slice Av i cv):=fun o=>(World.cell?_alloc_lt w6 o ⟨w.heap.size+1+1,2,none⟩ lT).trans t2
     clear hy
     go_wp2_with fail
     go_region_law (first
      | (go_simp;go_at_call 20;refine(WN.out _).mono ?_;rintro e w' ⟨rfl,rfl⟩)
      | (refine N9 (by rfl) (.tmp 68) (.tmp 75) 35 (by rfl) w.heap.size 66 i0 _ 5 40 Tryz.underlying35 hi hz0 hz1 hz2 ML (by omega) (.slice Av i cv) i (Ag l) (by rfl) (show((w6.alloc (.cells #[.int .i32 (97+y),.int .i64 0,.int .i64 p1,.int .i64 p2,.int .i64 p3] 66)).drew).ownsRow w.heap.size 66 5 (.slice Av i cv) i (Ag l) from ho.out.alloc _) #[.int .i32 (97+y),.int .i64 0,.int .i64 p1,.int .i64 p2,.int .i64 p3] 66 w6.heap.size (by rfl) (Box.new w6 _ _).drew rfl (by simp [Value.oneCell']) (by omega) (by omega) (by have:=H6.out.below.size;simp [World.drew];omega) ?_
         intro v1 w1 o1 hg1 hmv
         (obtain⟨A1,c1,rfl,_⟩:=Bo o1)
         have hg1':(w6.alloc (.cells #[.int .i32 (97+y),.int .i64 0,.int .i64 p1,.int .i64 p2,.int .i64 p3] 66)).grownBy w1 (Value.slice Av i cv).ownBlock:=⟨hg1.os,hg1.tape,hg1.output,hg1.size,hg1.block⟩
         have H7:=H6.out.call ((Below.refl _ w6).alloc (Nat.le_refl _) (.cells #[.int .i32 (97+y),.int .i64 0,.int .i64 p1,.int .i64 p2,.int .i64 p3] 66))
         have b1T:=H7.Gf.grown hg1' (fun e=>Ac H7.own H7.Gf (by decide) e.symm)
         have f1T:=b1T.frozen 2
         have c1T:w1.cell? ⟨w.heap.size+1+1,2,none⟩=some (.slice Av i cv):=b1T.cell 2
         have H8:=hide (KGr.grow (m:= [(97+y,0,(p1,p2,p3))]) H7 hNN.out.symm (A1:=A1) (c1:=c1) (by rw [hli.out,EY];exact o1) hg1' (by omega) hll.out hs1.out.symm)))
     all_goals
      clear o1 hg1 hg1' hmv H7 b1T H6 ho t2 fT P0 P1 P2 t2o
      go_wp2_with fail
      go_roundw
      case rel=>
       have H9:=H8.out
       rw [hli.out] at H9
       exact⟨i+1,_,_,by go_num,hide (by rw [List.length_append,hli.out];rfl),H9⟩
      case measure=>simp [intOf];omega
    ·have hs1:=hstep.out
     rw [hm,if_pos ⟨h5,hm0⟩] at hs1
     have hs1:=hide hs1
     have q5:(n.tmod 5==4)=true:=by simpa using h5
     have qm:((m:Int)!=0)=true:=by simp;omega
     have h9:=PI h5
     have w32:IntKind.i32.wrap (19968+n.tmod 9)=19968+n.tmod 9:=IntWalk.i32_in _ (by omega)
     clear hstep hm h5 hm0
     go_wp2_with (
      at_builtin
      go_must (refine LB rfl (.tmp 53) (.tmp 62) 35 rfl w.heap.size 66 i0 _ 40 Tryz.underlying35 hi hz0 hz1 hz2 rfl (.slice Av i cv) i l rfl (ho.out.alloc _) (w6.heap.size+1) (some ⟨w6.heap.size,0,none⟩) 2 2 [(19968+n.tmod 9,1,(p1,p2,p3)),(0,2,(p1,p2,p3))] rfl (Seen.Ec (Box.new w6 66 #[.int .i32 (19968+n.tmod 9),.int .i64 1,.int .i64 p1,.int .i64 p2,.int .i64 p3,.int .i32 0,.int .i64 2,.int .i64 p1,.int .i64 p2,.int .i64 p3]) rfl rfl (Nat.lt_succ_self _)) (by omega) (by omega) (by have:=H6.out.below.size;simp;omega) ?_)
      intro v1 w1 o1 hg1 hmv
      obtain⟨A1,c1,rfl,_⟩:=Bo o1
      have H7:=H6.out.call ((Below.refl _ w6).alloc (Nat.le_refl _) (.cells #[.int .i32 (19968+n.tmod 9),.int .i64 1,.int .i64 p1,.int .i64 p2,.int .i64 p3,.int .i32 0,.int .i64 2,.int .i64 p1,.int .i64 p2,.int .i64 p3] 66))
      have b1T:=H7.Gf.grown hg1 (fun e=>Ac H7.own H7.Gf (by decide) e.symm)
      have f1T:=b1T.frozen 2
      have c1T:w1.cell? ⟨w.heap.size+1+1,2,none⟩=some (.slice Av i cv):=b1T.cell 2
      have H8:=hide (KGr.grow (m:= [(19968+n.tmod 9,1,(p1,p2,p3)),(0,2,(p1,p2,p3))]) H7 hNN.out.symm (A1:=A1) (c1:=c1) (by rw [hli.out];exact o1) hg1 (by omega) hll.out hs1.out.symm)
      clear o1 hg1 hmv H7 b1T H6 ho t2 fT P0 P1 P2)
     go_roundw
     case rel=>
      have H9:=H8.out
      rw [hli.out] at H9
      exact⟨i+2,_,_,by go_num,hide (by rw [List.length_append,hli.out];rfl),H9⟩
     case measure=>simp [intOf];omega
   ·have hs1:=hstep.out
    rw [hm,if_neg (fun h=>h5 h.1)] at hs1
    have q5:(n.tmod 5==4)=false:=by simpa using h5
    clear hstep hm h5
    obtain⟨y,hy⟩: ∃y,n%10=y:=⟨_,rfl⟩
    have hyb:0<=y/\y<=9:=by omega
    have WN:=hide (fun w'=>BN n 0 9 y (by omega) w' hnb.1 hnb.2 (by omega) (by omega) (by omega))
    rw [hy] at hs1
    have hs1:=hide hs1
    have w32:IntKind.i32.wrap (97+y)=97+y:=IntWalk.i32_in _ (by omega)
    have w64:IntKind.i64.wrap (97+y)=97+y:=IntWalk.i64_in _ (by omega)
    have t2o: ∀o,(w6.alloc o).cell? ⟨w.heap.size+1+1,2,none⟩=some (.slice Av i cv):=fun o=>(World.cell?_alloc_lt w6 o ⟨w.heap.size+1+1,2,none⟩ lT).trans t2
    clear hy
    go_wp2_with fail
    go_region_law (first
     | (go_simp;go_at_call 20;refine(WN.out _).mono ?_;rintro e w' ⟨rfl,rfl⟩)
     | (refine N9 (by rfl) (.tmp 68) (.tmp 75) 35 (by rfl) w.heap.size 66 i0 _ 5 40 Tryz.underlying35 hi hz0 hz1 hz2 ML (by omega) (.slice Av i cv) i (Ag l) (by rfl) (show((w6.alloc (.cells #[.int .i32 (97+y),.int .i64 0,.int .i64 p1,.int .i64 p2,.int .i64 p3] 66)).drew).ownsRow w.heap.size 66 5 (.slice Av i cv) i (Ag l) from ho.out.alloc _) #[.int .i32 (97+y),.int .i64 0,.int .i64 p1,.int .i64 p2,.int .i64 p3] 66 w6.heap.size (by rfl) (Box.new w6 _ _).drew rfl (by simp [Value.oneCell']) (by omega) (by omega) (by have:=H6.out.below.size;simp [World.drew];omega) ?_
        intro v1 w1 o1 hg1 hmv
        (obtain⟨A1,c1,rfl,_⟩:=Bo o1)
        have hg1':(w6.alloc (.cells #[.int .i32 (97+y),.int .i64 0,.int .i64 p1,.int .i64 p2,.int .i64 p3] 66)).grownBy w1 (Value.slice Av i cv).ownBlock:=⟨hg1.os,hg1.tape,hg1.output,hg1.size,hg1.block⟩
        have H7:=H6.out.call ((Below.refl _ w6).alloc (Nat.le_refl _) (.cells #[.int .i32 (97+y),.int .i64 0,.int .i64 p1,.int .i64 p2,.int .i64 p3] 66))
        have b1T:=H7.Gf.grown hg1' (fun e=>Ac H7.own H7.Gf (by decide) e.symm)
        have f1T:=b1T.frozen 2
        have c1T:w1.cell? ⟨w.heap.size+1+1,2,none⟩=some (.slice Av i cv):=b1T.cell 2
        have H8:=hide (KGr.grow (m:= [(97+y,0,(p1,p2,p3))]) H7 hNN.out.symm (A1:=A1) (c1:=c1) (by rw [hli.out,EY];exact o1) hg1' (by omega) hll.out hs1.out.symm)))
    all_goals
     clear o1 hg1 hg1' hmv H7 b1T H6 ho t2 fT P0 P1 P2 t2o
     go_wp2_with fail
     go_roundw
     case rel=>
      have H9:=H8.out
      rw [hli.out] at H9
      exact⟨i+1,_,_,by go_num,hide (by rw [List.length_append,hli.out];rfl),H9⟩
     case measure=>simp [intOf];omega
  ·obtain rfl:i=N:=by omega
   have hk:=H.rest
   rw [PG.QW rs ps (by rw [hli.out];exact Nat.le_refl _)] at hk
   have hcells:l=PG.Df rs ps R K:=by unfold PG.Df;rw [hNN.out];exact hk
   have t0:wr.cell? ⟨w.heap.size+1+1,0,none⟩=some (.int .i64 R):=H.Gf.cell 0
   have t1:wr.cell? ⟨w.heap.size+1+1,1,none⟩=some (.int .i64 K):=H.Gf.cell 1
   have t2:wr.cell? ⟨w.heap.size+1+1,2,none⟩=some (.slice Av i cv):=H.Gf.cell 2
   obtain⟨q0,q1,q2,q3,q4,q5⟩:=H.Km.three
   have n1:=Ac ho H.Km (by decide)
   have X:=H.Km.Cq (.int .i64 R) (.int .i64 K) (.slice Av i cv)
   have O:=ownsRow_setCell_other (ownsRow_setCell_other (ownsRow_setCell_other ho (a:=⟨w.heap.size+1,0,none⟩) n1 (.int .i64 R)) (a:=⟨w.heap.size+1,1,none⟩) n1 (.int .i64 K)) (a:=⟨w.heap.size+1,2,none⟩) n1 (.slice Av i cv)
   have bz:=BM H.below (show w.heap.size<=w.heap.size+1 by omega) (.int .i64 R) (.int .i64 K) (.slice Av i cv)
   obtain⟨j0,j1,j2,_⟩:=X.three
   have O:=hide O
   have bz:=hide bz
   have hcells:=hide hcells
   clear ho H PR PP hblk hk
   go_wp2_with fail
   refine bodyPost_ret (v:=.agg #[.int .i64 R,.int .i64 K,.slice Av i cv]) (by simp [results,Tryz.results35,go_sem,j0,j1,j2]) rfl ⟨_,rfl,?_,bz.out⟩
   rw [<- hcells.out,hli.out]
   exact O.out
end Go.Proofs.YtoaabebgmdbjeaaGreatDoor
namespace Go.Proofs.YtoaabebgmdbjeaaGreatDoor
open Go.RowKit
namespace PG
def TD (g:Gr) (r c x:Int) (p:Pn):Gr:=if 0<=r/\0<=c then EN g r.toNat c.toNat x p else g
def J9 (g:Gr) (r a b:Int) (p:Pn):Gr:=if 0<=r then DL g r.toNat (max a 0).toNat (min b g.AB).toNat p else g
end PG
theorem IsG.open_ {w:World} {G:PG.Gr} {v:Value} (h:IsG w G v): ∃A c,v=gv G.rows G.AB (.slice A (G.rows*G.AB) c)/\BJ w w.heap.size A (G.rows*G.AB) (PG.cells G)/\G.rows*G.AB<=c/\c<=maxLen:=by
 obtain⟨s,rfl,ho⟩:=h
 obtain⟨A,c,rfl,h1,h2,_⟩:=Bo ho
 exact⟨A,c,rfl,BJ.CY ho,h1,h2⟩
def DN (w:World) (G:PG.Gr) (e:Ending) (w':World):Prop:= ∃v,e=.returned v/\IsG w' G v/\Below w.heap.size w w'
theorem KC {w:World} {R K:Nat} {G:PG.Gr} {l:List PG.Cl} {e:Ending} {w':World} (h:Gm w R K (R*K) l e w') (hl:l=PG.cells G) (hR:G.rows=R) (hK:G.AB=K):DN w G e w':=by
 subst hR hK hl
 obtain⟨g,rfl,ho,hb⟩:=h
 exact⟨_,rfl,⟨_,rfl,own_base' ho (Nat.zero_le _)⟩,hb⟩
theorem Yn {w:World} {G:PG.Gr} {l:List PG.Cl} {R K:Nat} {e:Ending} {w':World} (h:IK w R K l e w') (hl:l=PG.cells G) (hR:G.rows=R) (hK:G.AB=K):DN w G e w':=by
 subst hR hK hl
 obtain⟨v,rfl,ho,hb⟩:=h
 rw [PG.BH] at ho
 exact⟨_,rfl,⟨_,rfl,own_base' ho (Nat.zero_le _)⟩,hb⟩
section
variable {G H:PG.Gr} {v v':Value} {w:World}
theorem cu {r c x:Int} {p:PG.Pn} {q k:Nat} (hr:r=q) (hc:c=k):PG.TD G r c x p=PG.EN G q k x p:=by
 subst hr hc
 unfold PG.TD
 rw [if_pos (by omega)]
 rfl
theorem Yo {r c x:Int} {p:PG.Pn} (h: ¬(0<=r/\r<G.rows/\0<=c/\1<=C.width x/\c+C.width x<=G.AB)):PG.TD G r c x p=G:=by
 unfold PG.TD
 split
 ·rename_i h0
  exact PG.bO (fun h1=>h (by omega))
 ·rfl
theorem lZ (hG:PG.BL G) (h:IsG w G v) (r c x:Int) (p:PG.Pn) (hr: -1000<=r/\r<=1000) (hc: -1000<=c/\c<=1000) (hx0: -2147483648<=x) (hx1:x<=2147483647) (hs:FV w):
  Calls Tryz.prog 65 #[v,.int .i64 r,.int .i64 c,.int .i32 x,pv p] w (DN w (PG.TD G r c x p)):=by
 obtain⟨A,cp,rfl,hl,h1,h2⟩:=h.open_
 have hw:=J7 x p
 by_cases hi:0<=r/\r<G.rows/\0<=c/\1<=C.width x/\c+C.width x<=G.AB
 ·obtain⟨q,rfl⟩:=Int.eq_ofNat_of_zero_le hi.1
  obtain⟨k,rfl⟩:=Int.eq_ofNat_of_zero_le hi.2.2.1
  rw [cu rfl rfl]
  refine(cK G.rows G.AB _ cp w.heap.size q k x p A _ w hl (Nat.le_refl _) rfl (by omega) hG.2.1 hG.2.2.1 hG.2.2.2.1 hx0 hx1 hs (by omega) (by omega)).mono fun e w' hm=>?_
  exact KC hm (PG.Vx hG (by omega) hi.2.2.2.1 (by omega)) (PG.Cv ..).1 (PG.Cv ..).2
 ·rw [Yo hi]
  refine(Yi G.rows G.AB _ cp w.heap.size r c x p A _ w hl (Nat.le_refl _) rfl hG.1 hG.2.1 hG.2.2.1 hG.2.2.2.1 hx0 hx1 hs hc.1 hc.2 (by have:=PG.F8 x;omega)).mono fun e w' hm=>?_
  exact KC hm rfl rfl rfl
def atI (G:PG.Gr) (r c:Int):Value:=if 0<=r/\r<G.rows/\0<=c/\c<G.AB then atv (G.f r.toNat c.toNat) true else atv PG.none false
theorem jC {r c:Nat} (hr:r<G.rows) (hc:c<G.AB):atI G r c=atv (G.f r c) true:=by
 unfold atI
 rw [if_pos (by omega)]
 rfl
theorem u_at (hG:PG.BL G) (h:IsG w G v) (r c:Int):Calls Tryz.prog 29 #[v,.int .i64 r,.int .i64 c] w fun e w'=>e=.returned (atI G r c)/\Below w.heap.size w w':=by
 obtain⟨A,cp,rfl,hl,h1,h2⟩:=h.open_
 by_cases hi:0<=r/\r<G.rows/\0<=c/\c<G.AB
 ·obtain⟨q,rfl⟩:=Int.eq_ofNat_of_zero_le hi.1
  obtain⟨k,rfl⟩:=Int.eq_ofNat_of_zero_le hi.2.2.1
  have hq:q<G.rows:=by omega
  have hk:k<G.AB:=by omega
  have:=jB G _ cp w.heap.size q k A w hl (Nat.le_refl _) rfl h1 h2 hq hk hG.2.1 hG.2.2.2.1
  rw [<- jC hq hk] at this
  exact this
 ·have hnn:0*G.AB+0<G.rows*G.AB:=PG.Ca hG.1 hG.2.2.1
  obtain⟨c0,hc0'⟩: ∃c0,(PG.cells G)[0]? =some c0:=⟨_,List.getElem?_eq_getElem (by rw [PG.BH];omega)⟩
  obtain⟨ad,rfl,_⟩:=hl.at_ hc0'
  have e:atI G r c=atv PG.none false:=if_neg hi
  rw [e]
  exact cZ G.rows G.AB _ cp r c ad w rfl h1 h2 hG.1 hG.2.1 hG.2.2.1 hG.2.2.2.1 (by omega)
theorem size_le (hG:PG.BL G):G.rows*G.AB<=2400:=Nat.mul_le_mul hG.2.1 hG.2.2.2.1
end
end Go.Proofs.YtoaabebgmdbjeaaGreatDoor
namespace Go.Proofs.YtoaabebgmdbjeaaGreatDoor
open Go.RowKit
theorem Qi (w:World): ∀k,(Value.slice (some ⟨w.heap.size,0,none⟩) 0 0).ownBlock=some k->w.heap.size<=k:=fun k hk=>by
 have:w.heap.size=k:=by simpa [Value.ownBlock] using hk
 omega
theorem Ma (n c B:Nat) (ad:Addr) (l:List PG.Cl) (w:World) (hl:BJ w B (some ad) n l) (hB:B<=w.heap.size) (hn:n<=1048576):
  Calls Tryz.prog 39 #[.slice (some ad) n c] w fun e w'=> ∃v,e=.returned v/\w'.ownsRow w.heap.size 66 5 v n (Ag l)/\Below w.heap.size w w':=by
 obtain⟨i0,hi,hz0,hz1,hz2⟩:=info_parts Cy
 have qT: ∀(w:World) (a:Option Addr) (n c n' c':Nat),(binOp .eql 35 (.slice a n c) (.slice none n' c')).run Tryz.prog w=.ok (.bool a.isNone) w:=fun w a n c n' c'=>Lib.run_eql_slice_nil w _ _ a n c n' c' Tryz.underlying35
 have own0:=YR (w:=w) (base:=w.heap.size) 66 rfl (Nat.le_refl _)
 have hs1:=(BJ.below hl (Below.alloc (Below.refl _ _) hB (.cells #[] 66)))
 go_enter Tryz.func39,Tryz.ntmps39
 go_wp2_with (
  at_builtin
  go_must (refine LB rfl (.tmp 5) (.tmp 6) 35 rfl w.heap.size 66 i0 _ 40 Tryz.underlying35 hi hz0 hz1 hz2 rfl _ 0 [] rfl own0 B (some ad) n c l rfl hs1 (by omega) (by omega) (by simp) ?_)
  intro v1 w1 hown1 hg1 hm1)
 go_ret
 exact⟨_,rfl,by simpa using hown1,((Below.refl _ _).alloc (Nat.le_refl _) _).grown hg1 (by simp) (Qi w)⟩
end Go.Proofs.YtoaabebgmdbjeaaGreatDoor
namespace Go.Proofs.YtoaabebgmdbjeaaGreatDoor
open Go.RowKit
def Yp (w:World) (G:PG.Gr) (g:Nat):Prop:= ∃s,Box w g 37 #[.int .i64 G.rows,.int .i64 G.AB,s] /\IsG w G (gv G.rows G.AB s)
theorem Yp.low {w w':World} {G:PG.Gr} {g:Nat} (h:Yp w G g) (b:Below w.heap.size w w'):Yp w' G g:=by
 obtain⟨s,h1,h2⟩:=h
 exact⟨s,h1.below b h1.lt,h2.low b⟩
theorem jD {R K:Nat} {s x y z:Value} (h:gv R K s=.agg #[x,y,z]):x=.int .i64 R/\y=.int .i64 K/\z=s:=by
 unfold gv at h
 injection h with h
 injection h with h
 injection h with h1 h
 injection h with h2 h
 injection h with h3 h
 exact⟨h1.symm,h2.symm,h3.symm⟩
theorem Yp.open_ {w:World} {G:PG.Gr} {g R K:Nat} (h:Yp w G g) (hR:G.rows=R) (hK:G.AB=K): ∃A c,Box w g 37 #[.int .i64 R,.int .i64 K,.slice A (R*K) c] /\BJ w w.heap.size A (R*K) (PG.cells G)/\R*K<=c/\c<=maxLen/\IsG w G (gv R K (.slice A (R*K) c)):=by
 subst hR hK
 obtain⟨s,h1,h2⟩:=h
 obtain⟨A,c,hs,h3,h4,h5⟩:=h2.open_
 obtain⟨-, -,rfl⟩:=jD hs
 exact⟨A,c,h1,h3,h4,h5,h2⟩
section
variable {ops:Array Oper} {S:List (Option Nat)} {w0 w:World} {olds:Nat->Array Value} {sh:Shape} {vals:Nat->Value} {grs:Nat->PG.Gr} {gs:Nat->Nat} {L:Nat->Bool} {u:Nat->Value}
end
end Go.Proofs.YtoaabebgmdbjeaaGreatDoor
namespace Go.Proofs.YtoaabebgmdbjeaaGreatDoor.PG
end Go.Proofs.YtoaabebgmdbjeaaGreatDoor.PG
namespace Go.Proofs.YtoaabebgmdbjeaaGreatDoor
end Go.Proofs.YtoaabebgmdbjeaaGreatDoor
namespace Go.Proofs.YtoaabebgmdbjeaaGreatDoor
open Go.RowKit
end Go.Proofs.YtoaabebgmdbjeaaGreatDoor
namespace Go.Proofs.YtoaabebgmdbjeaaGreatDoor
open Go.RowKit
theorem TF (rw_ cl:Int) (R K nr cr np cp:Nat) (rs ps:List Int) (Ar Ap:Option Addr) (w w':World) (b:Below w.heap.size w w') (hR:1+rw_%(5-1+1)=(R:Int)) (hK:1+cl%(9-1+1)=(K:Int)) (hr: -9223372036854775808<=rw_/\rw_<=9223372036854775807) (hc: -9223372036854775808<=cl/\cl<=9223372036854775807)
  (hs:Arg .i64 w Ar nr cr rs) (hp:Arg .i64 w Ap np cp ps):
  Calls Tryz.prog 35 #[.agg #[.int .i64 rw_,.int .i64 cl,.slice Ar nr cr,.slice Ap np cp]] w' (DN w' (PG.ofL R K (PG.Df rs ps R K))):=by
 have h1:=hs.le
 have h2:=hs.cap
 have h3:=hp.le
 have h4:=hp.cap
 unfold maxLen at h2 h4
 refine(PK rw_ cl R K nr cr np cp w.heap.size rs ps Ar Ap w' hR hK hr.1 hr.2 hc.1 hc.2 (hs.seen.below b) (hp.seen.below b) b.size (by omega) (by omega) (fun x hx=>bounds_i64 (hs.wf x hx)) (fun x hx=>bounds_i64 (hp.wf x hx))).mono fun e w' hm=>?_
 exact Yn hm (PG.Sb rs ps R K).symm rfl rfl
theorem Qj (rs ps:List Int) {R K:Nat} (h1:1<=R) (h2:R<=5) (h3:1<=K) (h4:K<=9):PG.BL (PG.ofL R K (PG.Df rs ps R K)):=PG.Jd rs ps h1 (by omega) h3 (by omega)
end Go.Proofs.YtoaabebgmdbjeaaGreatDoor
namespace Go.Proofs.YtoaabebgmdbjeaaGreatDoor
open Go.RowKit
end Go.Proofs.YtoaabebgmdbjeaaGreatDoor
