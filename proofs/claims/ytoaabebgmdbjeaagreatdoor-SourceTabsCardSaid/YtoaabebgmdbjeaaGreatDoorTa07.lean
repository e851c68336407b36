/- A part of the proof: GridRefNew, GridUse, ScreenVal, ScrBrief. -/
import Derived.Test.YtoaabebgmdbjeaaGreatDoorTa06
import Derived.Deep.RegionLaw
import Derived.Lib.SliceRun
import Derived.StillTailTactics
import Derived.Lib.OthersKept
set_option maxRecDepth 100000
set_option maxHeartbeats 16000000
set_option linter.unusedVariables false
namespace Go.Proofs.YtoaabebgmdbjeaaGreatDoor
open Go.RowKit
theorem Gc {w w':World} {base size n:Nat} {e:TypeId} {v:Value} {xs:List Value} (h:w.ownsRow base e size v n xs) (hb:Below w.heap.size w w'):w'.ownsRow base e size v n xs:=BN h (Kept.of_below (L:= []) hb) (by simp)
end Go.Proofs.YtoaabebgmdbjeaaGreatDoor
namespace Go.Proofs.YtoaabebgmdbjeaaGreatDoor
open Go.RowKit
theorem Lu {n k:Nat} (h:Nat->PG.Cl) (v:PG.Cl):((List.range n).map h).set k v=(List.range n).map (fun j=>if j=k then v else h j):=by
 refine List.ext_getElem? fun j=>?_
 by_cases hj:j<n
 ·by_cases e:j=k
  ·subst e
   rw [List.getElem?_set_self (by simpa using hj),PG.DY hj,if_pos rfl]
  ·rw [List.getElem?_set_ne (by omega),PG.DY hj,PG.DY hj,if_neg e]
 ·rw [List.getElem?_eq_none (by rw [List.length_set];simp;omega),List.getElem?_eq_none (by simp;omega)]
theorem OA: ∀(l:List PG.Cl) (k:Nat) (x d:Int) (p:PG.Pn) (d':Int),l[k]? =some (x,d,p)->(Af l).set (k*5+1) (.int .i64 d')=Af (l.set k (x,d',p))
 | [],k,x,d,p,d',h=>by simp at h
 | c::l,0,x,d,p,d',h=>by
  simp at h
  subst h
  rfl
 | c::l,k+1,x,d,p,d',h=>by
  have ih:=OA l k x d p d' (by simpa using h)
  rw [List.set_cons_succ,Bt,Bt, <- ih,List.set_append_right _ _ (by show 5<=_;omega)]
  congr 2
  show(k+1)*5+1-5=k*5+1
  omega
theorem WB {w:World} {base n g cap:Nat} {e:TypeId} {l:List PG.Cl} (h:w.ownsRow base e 5 (.slice (some ⟨g,0,none⟩) n cap) n (Af l)) {k:Nat} {x d:Int} {p:PG.Pn} (hk:l[k]? =some (x,d,p)) (d':Int):
  (w.setCell ⟨g,k*5+1,none⟩ (.int .i64 d')).ownsRow base e 5 (.slice (some ⟨g,0,none⟩) n cap) n (Af (l.set k (x,d',p)))/\w.grownBy (w.setCell ⟨g,k*5+1,none⟩ (.int .i64 d')) (some g):=by
 have s:=h.stored (k*5+1) (.int .i64 d')
 rw [OA l k x d p d' hk] at s
 exact s
def mid (f:Nat->PG.Cl) (c:Nat) (x:Int) (p:PG.Pn) (w:Nat) (j:Nat):PG.Cl:=if j+1=c/\PG.kd (f c)=2 then PG.blank (PG.pn (f j)) else PG.over f c x p w j
def Ki (w:World) (R K n cp g cap:Nat) (A:Option Addr) (p:PG.Pn) (h:Nat->PG.Cl) (wx:World):Prop:=
 Box wx w.heap.size 37 #[.int .i64 R,.int .i64 K,.slice A n cp] /\Box wx (w.heap.size+1) 38 #[.int .i64 p.1,.int .i64 p.2.1,.int .i64 p.2.2] /\Box wx (w.heap.size+1+1) 37 #[.int .i64 0,.int .i64 0,.slice none 0 0] /\
  wx.ownsRow w.heap.size 66 5 (.slice (some ⟨g,0,none⟩) K cap) K (Af ((List.range K).map h))/\Below w.heap.size w wx
theorem Ki.set {w wx:World} {R K n cp g cap:Nat} {A:Option Addr} {p:PG.Pn} {h:Nat->PG.Cl} (H:Ki w R K n cp g cap A p h wx) {k:Nat} (hk:k<K) (v:PG.Cl):
  Ki w R K n cp g cap A p (fun j=>if j=k then v else h j) (CG wx g (k*5) v):=by
 obtain⟨x0,x1,x2,ho,hb⟩:=H
 have S:=EF ho (k:=k) v hk (by simp)
 refine⟨x0.grown S.2 (fun e=>Aa ho x0 (by decide) e.symm),x1.grown S.2 (fun e=>Aa ho x1 (by decide) e.symm),x2.grown S.2 (fun e=>Aa ho x2 (by decide) e.symm),?_,hb.grown S.2 hb.size (by rintro _ ⟨⟩;exact(ho.lt g rfl).1)⟩
 rw [<- Lu]
 exact S.1
theorem Ki.kind {w wx:World} {R K n cp g cap:Nat} {A:Option Addr} {p:PG.Pn} {h:Nat->PG.Cl} (H:Ki w R K n cp g cap A p h wx) {k:Nat} (hk:k<K) {x d:Int} {q:PG.Pn} (e:h k=(x,d,q)) (d':Int):
  Ki w R K n cp g cap A p (fun j=>if j=k then (x,d',q) else h j) (wx.setCell ⟨g,k*5+1,none⟩ (.int .i64 d')):=by
 obtain⟨x0,x1,x2,ho,hb⟩:=H
 have S:=WB ho (k:=k) (x:=x) (d:=d) (p:=q) (by rw [PG.DY hk,e]) d'
 refine⟨x0.grown S.2 (fun e=>Aa ho x0 (by decide) e.symm),x1.grown S.2 (fun e=>Aa ho x1 (by decide) e.symm),x2.grown S.2 (fun e=>Aa ho x2 (by decide) e.symm),?_,hb.grown S.2 hb.size (by rintro _ ⟨⟩;exact(ho.lt g rfl).1)⟩
 rw [<- Lu]
 exact S.1
theorem Ki.call {w wx wy:World} {R K n cp g cap:Nat} {A:Option Addr} {p:PG.Pn} {h:Nat->PG.Cl} (H:Ki w R K n cp g cap A p h wx) (b:Below wx.heap.size wx wy):Ki w R K n cp g cap A p h wy:=by
 obtain⟨x0,x1,x2,ho,hb⟩:=H
 exact⟨x0.below b x0.lt,x1.below b x1.lt,x2.below b x2.lt,Gc ho b,hb.trans (b.mono hb.size)⟩
theorem Ki.five {w wx:World} {R K n cp g cap:Nat} {A:Option Addr} {p:PG.Pn} {h:Nat->PG.Cl} (H:Ki w R K n cp g cap A p h wx) {k:Nat} (hk:k<K):
  wx.cell? ⟨g,k*5,none⟩=some (.int .i32 (PG.rn (h k)))/\wx.cell? ⟨g,k*5+1,none⟩=some (.int .i64 (PG.kd (h k)))/\wx.cell? ⟨g,k*5+2,none⟩=some (.int .i64 (PG.pn (h k)).1)/\wx.cell? ⟨g,k*5+3,none⟩=some (.int .i64 (PG.pn (h k)).2.1)/\wx.cell? ⟨g,k*5+4,none⟩=some (.int .i64 (PG.pn (h k)).2.2)/\
  wx.frozen? ⟨g,k*5,none⟩=false/\wx.frozen? ⟨g,k*5+1,none⟩=false/\wx.frozen? ⟨g,k*5+2,none⟩=false/\wx.frozen? ⟨g,k*5+3,none⟩=false/\wx.frozen? ⟨g,k*5+4,none⟩=false:=
 Gx H.2.2.2.1 (PG.DY hk)
end Go.Proofs.YtoaabebgmdbjeaaGreatDoor
namespace Go.Proofs.YtoaabebgmdbjeaaGreatDoor
open Go.RowKit
end Go.Proofs.YtoaabebgmdbjeaaGreatDoor
namespace Go.Proofs.YtoaabebgmdbjeaaGreatDoor
open Go.RowKit
namespace PG
end PG
structure Lv (w:World) (G:PG.Gr) (n cp R K N gt k:Nat) (ad:Addr) (v:Value) (wx:World):Prop where
 box0:Box wx w.heap.size 37 #[.int .i64 G.rows,.int .i64 G.AB,.slice (some ad) n cp]
 P9:Box wx (w.heap.size+1) 37 #[.int .i64 0,.int .i64 0,.slice none 0 0]
 QA:Box wx gt 37 #[.int .i64 R,.int .i64 K,v]
 own:wx.ownsRow w.heap.size 66 5 v N (Af (PG.cells (PG.fO G R K k)))
 below:Below w.heap.size w wx
theorem Lv.call {w wx wy:World} {G:PG.Gr} {n cp R K N gt k:Nat} {ad:Addr} {v:Value} (h:Lv w G n cp R K N gt k ad v wx) (b:Below wx.heap.size wx wy):Lv w G n cp R K N gt k ad v wy:=
 ⟨h.box0.below b h.box0.lt,h.P9.below b h.P9.lt,h.QA.below b h.QA.lt,Gc h.own b,h.below.trans (b.mono h.below.size)⟩
theorem Lv.grown {w wx wy:World} {G:PG.Gr} {n cp R K N gt k:Nat} {ad:Addr} {v:Value} (h:Lv w G n cp R K N gt k ad v wx) {g' n' m:Nat} {v':Value} {xs:List Value} (o:wx.ownsRow m 66 5 v' n' xs) (hv:v'.ownBlock=some g') (hne:v.ownBlock≠some g') (hm:w.heap.size<=g') (b:wx.grownBy wy (some g')):Lv w G n cp R K N gt k ad v wy:=
 ⟨h.box0.grown b (fun e=>Aa o h.box0 (by decide) (hv.trans e.symm)),h.P9.grown b (fun e=>Aa o h.P9 (by decide) (hv.trans e.symm)),h.QA.grown b (fun e=>Aa o h.QA (by decide) (hv.trans e.symm)),
  BN h.own (Kept.Nz b) (fun q hq hm=>hne (by simp at hm;rw [hq,hm])),h.below.grown b h.below.size (by rintro _ ⟨⟩;exact hm)⟩
end Go.Proofs.YtoaabebgmdbjeaaGreatDoor
namespace Go.Proofs.YtoaabebgmdbjeaaGreatDoor
open Go.RowKit
end Go.Proofs.YtoaabebgmdbjeaaGreatDoor
namespace Go.Proofs.YtoaabebgmdbjeaaGreatDoor
open Go.RowKit
end Go.Proofs.YtoaabebgmdbjeaaGreatDoor
namespace Go.Proofs.YtoaabebgmdbjeaaGreatDoor
open Go.RowKit
def IsG (w:World) (G:PG.Gr) (v:Value):Prop:= ∃s,v=gv G.rows G.AB s/\w.ownsRow 0 66 5 s (G.rows*G.AB) (Af (PG.cells G))
theorem IsG.low {w w':World} {G:PG.Gr} {v:Value} (h:IsG w G v) (b:Below w.heap.size w w'):IsG w' G v:=by
 obtain⟨s,h1,h2⟩:=h
 exact⟨s,h1,Gc h2 b⟩
theorem IsG.kept {w w':World} {G:PG.Gr} {v:Value} {g:Nat} {T:TypeId} {cs:Array Value} (h:IsG w G v) (hb:Box w g T cs) (hT:T≠66) (k:Kept [some g] w w'):IsG w' G v:=by
 obtain⟨s,h1,h2⟩:=h
 exact⟨s,h1,BN h2 k (fun b hb' hm=>Aa h2 hb (Ne.symm hT) (by simp at hm;rw [hb',hm]))⟩
def CV (w:World) (g:Nat) (x y z:Value):World:=((w.setCell ⟨g,0,none⟩ x).setCell ⟨g,1,none⟩ y).setCell ⟨g,2,none⟩ z
theorem WE {cs:Array Value} (hs:cs.size=3): ∃x y z,cs= #[x,y,z] :=by
 obtain⟨l⟩:=cs
 rcases l with _ | ⟨x,_ | ⟨y,_ | ⟨z,_ | ⟨u,l⟩⟩⟩⟩<;>simp at hs
 exact⟨x,y,z,rfl⟩
theorem Kj {w:World} {g:Nat} {T:TypeId} {cs:Array Value} (h:Box w g T cs) (hs:cs.size=3) (x y z:Value):Box (CV w g x y z) g T #[x,y,z] :=by
 obtain⟨a,b,c,rfl⟩:=WE hs
 exact h.CV x y z
theorem JA {w:World} {g g':Nat} {T:TypeId} {cs:Array Value} (h:Box w g T cs) (hne:g≠g') (x y z:Value):Box (CV w g' x y z) g T cs:=h.FY hne x y z
theorem TG (w:World) (g:Nat) (x y z:Value):Kept [some g] w (CV w g x y z):=
 (((Kept.refl _ w).setCell (p:=⟨g,0,none⟩) (From.mem (by simp)) _).setCell (p:=⟨g,1,none⟩) (From.mem (by simp)) _).setCell (p:=⟨g,2,none⟩) (From.mem (by simp)) _
abbrev Shape:=List (Nat × Nat × Nat × Nat)
def skd (sh:Shape) (j:Nat):Nat:=(sh.getD j (0,0,0,0)).1
def sba (sh:Shape) (j:Nat):Nat:=(sh.getD j (0,0,0,0)).2.1
def sva (sh:Shape) (j:Nat):Nat:=(sh.getD j (0,0,0,0)).2.2.1
def sty (sh:Shape) (j:Nat):Nat:=(sh.getD j (0,0,0,0)).2.2.2
def Kk (ops:Array Oper) (i j:Nat):Bool:=((ops[i]?).map fun o=>o.after.any fun e=>Region.binds .any e&&e.on==j).getD false
def KE (sh:Shape) (ops:Array Oper):Bool:=sh.length==ops.size&&(List.range ops.size).all fun j=>
 (!(skd sh j==3)||(Kk ops j (sba sh j)&&Kk ops j (sva sh j)&&skd sh (sba sh j)==2&&sty sh (sba sh j)==sty sh j&&sty sh j !=66&&Nat.blt (sva sh j) ops.size&&(List.range j).all fun i=> !(skd sh i==3&&sba sh i==sba sh j)))&&
 (!(skd sh j==4)||(Kk ops j (sva sh j)&&sty sh j !=66&&Nat.blt (sva sh j) ops.size))
def Holds (w0:World) (sh:Shape) (vals:Nat->Value) (grs:Nat->PG.Gr) (gs:Nat->Nat) (j:Nat) (u:Nat->Value) (w:World):Prop:=
 (skd sh j=0->u j=vals j)/\
 (skd sh j=1->IsG w (grs j) (u j))/\
 (skd sh j=2-> ∃g cs,u j=.pointer (some ⟨g,0,none⟩)/\w0.heap.size<=g/\Box w g (sty sh j) cs/\cs.size=3)/\
 (skd sh j=3-> ∃g x y z,u (sba sh j)=.pointer (some ⟨g,0,none⟩)/\u (sva sh j)=.agg #[x,y,z] /\Box w g (sty sh j) #[x,y,z])/\
 (skd sh j=4-> ∃x y z,u (sva sh j)=.agg #[x,y,z] /\Box w (gs j) (sty sh j) #[x,y,z])
structure RJ (ops:Array Oper) (S:List (Option Nat)) (w0:World) (olds:Nat->Array Value) (sh:Shape) (vals:Nat->Value) (grs:Nat->PG.Gr) (gs:Nat->Nat) (L:Nat->Bool) (u:Nat->Value) (w:World):Prop where
 kept:Kept S w0 w
 old: ∀j,skd sh j=4->L j=false->Box w (gs j) (sty sh j) (olds j)
 dist: ∀i j,skd sh i=2->skd sh j=2->L i=true->L j=true->i≠j->u i≠u j
 all: ∀j,j<ops.size->L j=true->Holds w0 sh vals grs gs j u w
structure RS (ops:Array Oper) (S:List (Option Nat)) (w0:World) (olds:Nat->Array Value) (sh:Shape) (gs:Nat->Nat):Prop where
 shape:KE sh ops=true
 inS: ∀j,skd sh j=4->some (gs j)∈S/\gs j<w0.heap.size/\(olds j).size=3
 ne4: ∀i j,skd sh i=4->skd sh j=4->i≠j->gs i≠gs j
section
variable {ops:Array Oper} {S:List (Option Nat)} {w0:World} {olds:Nat->Array Value} {sh:Shape} {vals:Nat->Value} {grs:Nat->PG.Gr} {gs:Nat->Nat}
theorem G5 (hs:RS ops S w0 olds sh gs) {j:Nat} (h:skd sh j≠0):j<ops.size:=by
 have hl:=hs.shape
 unfold KE at hl
 simp only [Bool.and_eq_true,beq_iff_eq] at hl
 rcases Nat.lt_or_ge j ops.size with h1 | h1
 ·exact h1
 ·exfalso
  apply h
  unfold skd
  rw [List.getD_eq_getElem?_getD,List.getElem?_eq_none (by omega)]
  rfl
theorem Jb (hs:RS ops S w0 olds sh gs) {j:Nat} (h:skd sh j=3):Kk ops j (sba sh j)=true/\Kk ops j (sva sh j)=true/\skd sh (sba sh j)=2/\sty sh (sba sh j)=sty sh j/\sty sh j≠66/\sva sh j<ops.size/\ ∀i,i<j->skd sh i=3->sba sh i≠sba sh j:=by
 have hj:=G5 hs (j:=j) (by omega)
 have hl:=hs.shape
 unfold KE at hl
 simp only [Bool.and_eq_true] at hl
 have:=List.all_eq_true.1 hl.2 j (by simpa using hj)
 simp only [Bool.and_eq_true,Bool.or_eq_true,Bool.not_eq_true',beq_eq_false_iff_ne,beq_iff_eq,bne_iff_ne,ne_eq,Nat.blt_eq] at this
 rcases this.1 with h1 | ⟨⟨⟨⟨⟨⟨h1,h2⟩,h3⟩,h4⟩,h5⟩,h7⟩,h6⟩
 ·exact absurd h h1
 ·refine⟨h1,h2,h3,h4,h5,h7,fun i hi hk e=>?_⟩
  have:=List.all_eq_true.1 h6 i (by simpa using hi)
  simp [hk,e] at this
theorem Mr (hs:RS ops S w0 olds sh gs) {j:Nat} (h:skd sh j=4):Kk ops j (sva sh j)=true/\sty sh j≠66/\sva sh j<ops.size:=by
 have hj:=G5 hs (j:=j) (by omega)
 have hl:=hs.shape
 unfold KE at hl
 simp only [Bool.and_eq_true] at hl
 have:=List.all_eq_true.1 hl.2 j (by simpa using hj)
 simp only [Bool.and_eq_true,Bool.or_eq_true,Bool.not_eq_true',beq_eq_false_iff_ne,beq_iff_eq,bne_iff_ne,ne_eq,Nat.blt_eq] at this
 rcases this.2 with h1 | ⟨⟨h1,h2⟩,h3⟩
 ·exact absurd h h1
 ·exact⟨h1,h2,h3⟩
theorem came {L:Nat->Bool} (hcl:Closed ops L) {i j:Nat} (h:L i=true) (hd:Kk ops i j=true):L j=true:=by
 refine Ab (ops:=ops) (i:=i) (fun o ho e he hb=>hcl i h o ho e he hb) j hd
variable {L:Nat->Bool} {u:Nat->Value} {w w':World}
theorem RJ.same {u':Nat->Value} (hs:RS ops S w0 olds sh gs) (h:RJ ops S w0 olds sh vals grs gs L u w) (he: ∀j,j<ops.size->u j=u' j):RJ ops S w0 olds sh vals grs gs L u' w:=by
 refine⟨h.kept,h.old,fun i j hi hj li lj hne=>by rw [<- he i (G5 hs (by omega)), <- he j (G5 hs (by omega))];exact h.dist i j hi hj li lj hne,fun j hl hj=>?_⟩
 obtain⟨a,b,c,d,e⟩:=h.all j hl hj
 refine⟨fun k=>by rw [<- he j hl];exact a k,fun k=>by rw [<- he j hl];exact b k,fun k=>by rw [<- he j hl];exact c k,fun k=>?_,fun k=>?_⟩
 ·obtain⟨_,_,s3,_,_,s6,_⟩:=Jb hs k
  rw [<- he _ (G5 hs (j:=sba sh j) (by omega)), <- he _ s6]
  exact d k
 ·rw [<- he _ (Mr hs k).2.2]
  exact e k
theorem RJ.low (hs:RS ops S w0 olds sh gs) (h:RJ ops S w0 olds sh vals grs gs L u w) (hcl:Closed ops L) {i:Nat} (hL:L i=false) (b:Below w.heap.size w w') (v:Value) (hk4:skd sh i≠4)
  (hd2:skd sh i=2-> ∀j,skd sh j=2->L j=true->u j≠v) (hi:Holds w0 sh vals grs gs i (upd u i v) w'):RJ ops S w0 olds sh vals grs gs (mark L i) (upd u i v) w':=by
 have hu: ∀j,L j=true->upd u i v j=u j:=fun j hj=>Ef (fun e=>by rw [e,hL] at hj;cases hj)
 have hm: ∀j,mark L i j=true->j=i\/L j=true:=fun j hj=>by
  by_cases e:j=i
  ·exact .inl e
  ·rw [Dx e] at hj;exact .inr hj
 refine⟨h.kept.below b,fun j hk hj=>?_,fun a c ha hc la lc hne=>?_,fun j hl hj=>?_⟩
 ·have hj':L j=false:=by
   by_cases e:j=i
   ·rw [e,GD] at hj;cases hj
   ·rwa [Dx e] at hj
  have hb:=h.old j hk hj'
  exact hb.below b hb.lt
 ·rcases hm a la with rfl | la'
  ·rcases hm c lc with rfl | lc'
   ·exact absurd rfl hne
   ·rw [Dl,hu c lc']
    exact fun e=>hd2 ha c hc lc' e.symm
  ·rcases hm c lc with rfl | lc'
   ·rw [Dl,hu a la']
    exact hd2 hc a ha la'
   ·rw [hu a la',hu c lc']
    exact h.dist a c ha hc la' lc' hne
 ·rcases hm j hj with rfl | hj'
  ·exact hi
  ·obtain⟨a,c,d,e,f⟩:=h.all j hl hj'
   refine⟨fun k=>by rw [hu j hj'];exact a k,fun k=>by rw [hu j hj'];exact(c k).low b,fun k=>?_,fun k=>?_,fun k=>?_⟩
   ·obtain⟨g,cs,k1,k2,k3,k4⟩:=d k
    exact⟨g,cs,by rw [hu j hj'];exact k1,k2,k3.below b k3.lt,k4⟩
   ·obtain⟨g,x,y,z,k1,k2,k3⟩:=e k
    obtain⟨s1,s2,_⟩:=Jb hs k
    exact⟨g,x,y,z,by rw [hu _ (came hcl hj' s1)];exact k1,by rw [hu _ (came hcl hj' s2)];exact k2,k3.below b k3.lt⟩
   ·obtain⟨x,y,z,k1,k2⟩:=f k
    exact⟨x,y,z,by rw [hu _ (came hcl hj' (Mr hs k).1)];exact k1,k2.below b k2.lt⟩
theorem RJ.val (hs:RS ops S w0 olds sh gs) (h:RJ ops S w0 olds sh vals grs gs L u w) (hcl:Closed ops L) {i:Nat} (hL:L i=false) (hk:skd sh i=0) (b:Below w.heap.size w w') (v:Value) (hv:vals i=v):RJ ops S w0 olds sh vals grs gs (mark L i) (upd u i v) w':=
 h.low hs hcl hL b v (by omega) (fun e=>by omega) ⟨fun _=>by rw [Dl,hv],fun e=>by omega,fun e=>by omega,fun e=>by omega,fun e=>by omega⟩
theorem RJ.box (hs:RS ops S w0 olds sh gs) (h:RJ ops S w0 olds sh vals grs gs L u w) (hcl:Closed ops L) {i:Nat} (hL:L i=false) (hk:skd sh i=2) (T:TypeId) (hT:sty sh i=T) (x y z:Value):RJ ops S w0 olds sh vals grs gs (mark L i) (upd u i (.pointer (some ⟨w.heap.size,0,none⟩))) (w.alloc (.cells #[x,y,z] T)):=by
 subst hT
 refine h.low hs hcl hL ((Below.refl _ _).alloc (Nat.le_refl _) _) _ (by omega) (fun _ j hj lj e=>?_) ⟨fun e=>by omega,fun e=>by omega,fun _=>⟨_,_,Dl,h.kept.size,Box.new w _ _,rfl⟩,fun e=>by omega,fun e=>by omega⟩
 obtain⟨g,cs,k1,k2,k3,k4⟩:=(h.all j (G5 hs (by omega)) lj).2.2.1 hj
 rw [k1] at e
 cases e
 exact absurd k3.lt (Nat.lt_irrefl _)
theorem RJ.hit (hs:RS ops S w0 olds sh gs) (h:RJ ops S w0 olds sh vals grs gs L u w) (hcl:Closed ops L) {i g:Nat} {T:TypeId} {cs:Array Value} (hL:L i=false) (hb:Box w g T cs) (hsz:cs.size=3) (hT:T≠66) (x y z:Value) (hk:skd sh i=3\/skd sh i=4)
  (hS:From w0 S (some g)) (h4: ∀j,j≠i->skd sh j=4->gs j≠g) (h3: ∀j,j≠i->skd sh j=3->L j=true-> ∀g',u (sba sh j)=.pointer (some ⟨g',0,none⟩)->g'≠g) (hi:Holds w0 sh vals grs gs i (upd u i undef) (CV w g x y z)):
  RJ ops S w0 olds sh vals grs gs (mark L i) (upd u i undef) (CV w g x y z):=by
 have hu: ∀j,L j=true->upd u i undef j=u j:=fun j hj=>Ef (fun e=>by rw [e,hL] at hj;cases hj)
 have hm: ∀j,mark L i j=true->j=i\/L j=true:=fun j hj=>by
  by_cases e:j=i
  ·exact .inl e
  ·rw [Dx e] at hj;exact .inr hj
 have hk2:=TG w g x y z
 refine⟨h.kept.trans hk2 (by simpa using hS),fun j hk hj=>?_,fun a c ha hc la lc hne=>?_,fun j hl hj=>?_⟩
 ·by_cases e:j=i
  ·rw [e,GD] at hj;cases hj
  ·rw [Dx e] at hj
   exact JA (h.old j hk hj) (h4 j e hk) x y z
 ·rcases hm a la with rfl | la'
  ·omega
  ·rcases hm c lc with rfl | lc'
   ·omega
   ·rw [hu a la',hu c lc']
    exact h.dist a c ha hc la' lc' hne
 ·rcases hm j hj with rfl | hj'
  ·exact hi
  ·have hji:j≠i:=fun e=>by rw [e,hL] at hj';cases hj'
   obtain⟨a,c,d,e,f⟩:=h.all j hl hj'
   refine⟨fun k=>by rw [hu j hj'];exact a k,fun k=>by rw [hu j hj'];exact(c k).kept hb hT hk2,fun k=>?_,fun k=>?_,fun k=>?_⟩
   ·obtain⟨g',cs',k1,k2,k3,k4⟩:=d k
    by_cases eg:g'=g
    ·subst eg
     exact⟨g', #[x,y,z],by rw [hu j hj'];exact k1,k2,Kj k3 k4 x y z,rfl⟩
    ·exact⟨g',cs',by rw [hu j hj'];exact k1,k2,JA k3 eg x y z,k4⟩
   ·obtain⟨g',x',y',z',k1,k2,k3⟩:=e k
    obtain⟨s1,s2,_⟩:=Jb hs k
    exact⟨g',x',y',z',by rw [hu _ (came hcl hj' s1)];exact k1,by rw [hu _ (came hcl hj' s2)];exact k2,JA k3 (h3 j hji k hj' g' k1) x y z⟩
   ·obtain⟨x',y',z',k1,k2⟩:=f k
    exact⟨x',y',z',by rw [hu _ (came hcl hj' (Mr hs k).1)];exact k1,JA k2 (h4 j hji k) x y z⟩
theorem RJ.put (hs:RS ops S w0 olds sh gs) (h:RJ ops S w0 olds sh vals grs gs L u w) (hcl:Closed ops L) {i g:Nat} (hL:L i=false) (hk:skd sh i=3) (la:L (sba sh i)=true) (lv:L (sva sh i)=true) (hg:u (sba sh i)=.pointer (some ⟨g,0,none⟩)) {x y z:Value} (hv:u (sva sh i)=.agg #[x,y,z]):
  RJ ops S w0 olds sh vals grs gs (mark L i) (upd u i undef) (CV w g x y z):=by
 obtain⟨s1,s2,s3,s4,s5,_,s6⟩:=Jb hs hk
 obtain⟨g',cs,k1,k2,k3,k4⟩:=(h.all _ (G5 hs (by omega)) la).2.2.1 s3
 rw [hg] at k1
 cases k1
 rw [s4] at k3
 have hna:sba sh i≠i:=fun e=>by rw [e,hL] at la;cases la
 have hnv:sva sh i≠i:=fun e=>by rw [e,hL] at lv;cases lv
 refine h.hit hs hcl hL k3 k4 s5 x y z (.inl hk) (fun b e=>by cases e;exact .inr k2) (fun j _ hj e=>?_) (fun j hne hj lj g' hg' e=>?_) ⟨fun e=>by omega,fun e=>by omega,fun e=>by omega,fun _=>⟨g,x,y,z,by rw [Ef hna];exact hg,by rw [Ef hnv];exact hv,Kj k3 k4 x y z⟩,fun e=>by omega⟩
 ·have:=(hs.inS j hj).2.1
  omega
 ·subst e
  obtain⟨t1,t2,t3,t4,t5,_,t6⟩:=Jb hs hj
  have hd:sba sh j≠sba sh i:=by
   rcases Nat.lt_or_gt_of_ne hne with hlt | hlt
   ·exact s6 j hlt hj
   ·exact fun e=>t6 i hlt hk e.symm
  exact h.dist _ _ t3 s3 (came hcl lj t1) la hd (hg'.trans hg.symm)
theorem RJ.set (hs:RS ops S w0 olds sh gs) (h:RJ ops S w0 olds sh vals grs gs L u w) (hcl:Closed ops L) {i:Nat} (hL:L i=false) (hk:skd sh i=4) (lv:L (sva sh i)=true) {x y z:Value} (hv:u (sva sh i)=.agg #[x,y,z]):
  RJ ops S w0 olds sh vals grs gs (mark L i) (upd u i undef) (CV w (gs i) x y z):=by
 obtain⟨s1,s2,_⟩:=Mr hs hk
 obtain⟨a1,a2,a3⟩:=hs.inS i hk
 have hb:=h.old i hk hL
 have hnv:sva sh i≠i:=fun e=>by rw [e,hL] at lv;cases lv
 refine h.hit hs hcl hL hb a3 s2 x y z (.inr hk) (From.mem a1) (fun j hne hj=>hs.ne4 j i hj hk hne) (fun j hne hj lj g' hg' e=>?_) ⟨fun e=>by omega,fun e=>by omega,fun e=>by omega,fun e=>by omega,fun _=>⟨x,y,z,by rw [Ef hnv];exact hv,Kj hb a3 x y z⟩⟩
 subst e
 obtain⟨t1,t2,t3,_⟩:=Jb hs hj
 obtain⟨g,cs,k1,k2,_⟩:=(h.all _ (G5 hs (by omega)) (came hcl lj t1)).2.2.1 t3
 rw [hg'] at k1
 cases k1
 omega
theorem RJ.valOf (h:RJ ops S w0 olds sh vals grs gs L u w) {j:Nat} (hl:j<ops.size) (hj:L j=true) (hk:skd sh j=0) {v:Value} (hv:vals j=v):u j=v:=((h.all j hl hj).1 hk).trans hv
theorem RJ.Z6 (h:RJ ops S w0 olds sh vals grs gs L u w) {j:Nat} (hl:j<ops.size) (hj:L j=true) (hk:skd sh j=2): ∃g cs,u j=.pointer (some ⟨g,0,none⟩)/\w0.heap.size<=g/\Box w g (sty sh j) cs/\cs.size=3:=(h.all j hl hj).2.2.1 hk
theorem RJ.Aj (h:RJ ops S w0 olds sh vals grs gs L u w) {g:Nat} {T:TypeId} {cs:Array Value} (hb:Box w0 g T cs) (hn:some g∉S):Box w g T cs:=hb.kept h.kept hn
theorem RJ.start (hb: ∀j,skd sh j=4->Box w0 (gs j) (sty sh j) (olds j)) (u:Nat->Value):RJ ops S w0 olds sh vals grs gs (fun _=>false) u {w0 with drawn:=w0.drawn+1}:=
 ⟨(Kept.refl S w0).drew,fun j hk _=>hb j hk,(fun i j _ _ li=>by cases li),(fun j _ hj=>by cases hj)⟩
end
end Go.Proofs.YtoaabebgmdbjeaaGreatDoor
namespace Go.Proofs.YtoaabebgmdbjeaaGreatDoor
open Go.RowKit
structure KGr (w:World) (rw cl:Int) (Ar Ap:Option Addr) (nr cr np cp R K N gt:Nat) (rs ps:List Int) (l:List PG.Cl) (v:Value) (wx:World):Prop where
 box0:Box wx w.heap.size 24 #[.int .i64 rw,.int .i64 cl,.slice Ar nr cr,.slice Ap np cp]
 P9:Box wx (w.heap.size+1) 37 #[.int .i64 0,.int .i64 0,.slice none 0 0]
 QA:Box wx gt 37 #[.int .i64 R,.int .i64 K,v]
 own:wx.ownsRow w.heap.size 66 5 v l.length (Af l)
 below:Below w.heap.size w wx
 ok:PG.Ok K l
 fit:l.length<=N
 rest:PG.Pj rs ps K N N l=PG.Pj rs ps K N N []
theorem KGr.call {w wx wy:World} {rw cl:Int} {Ar Ap:Option Addr} {nr cr np cp R K N gt:Nat} {rs ps:List Int} {l:List PG.Cl} {v:Value} (h:KGr w rw cl Ar Ap nr cr np cp R K N gt rs ps l v wx) (b:Below wx.heap.size wx wy):KGr w rw cl Ar Ap nr cr np cp R K N gt rs ps l v wy:=
 ⟨h.box0.below b h.box0.lt,h.P9.below b h.P9.lt,h.QA.below b h.QA.lt,Gc h.own b,h.below.trans (b.mono h.below.size),h.ok,h.fit,h.rest⟩
end Go.Proofs.YtoaabebgmdbjeaaGreatDoor
namespace Go.Proofs.YtoaabebgmdbjeaaGreatDoor
open Go.RowKit
namespace PG
def QB (g:Gr) (r c x:Int) (p:Pn):Gr:=if 0<=r/\0<=c then Dj g r.toNat c.toNat x p else g
def JB (g:Gr) (r a b:Int) (p:Pn):Gr:=if 0<=r then Cm g r.toNat (max a 0).toNat (min b g.AB).toNat p else g
end PG
theorem IsG.open_ {w:World} {G:PG.Gr} {v:Value} (h:IsG w G v): ∃A c,v=gv G.rows G.AB (.slice A (G.rows*G.AB) c)/\Ay w w.heap.size A (G.rows*G.AB) (PG.cells G)/\G.rows*G.AB<=c/\c<=maxLen:=by
 obtain⟨s,rfl,ho⟩:=h
 obtain⟨A,c,rfl,h1,h2,_⟩:=Bn ho
 exact⟨A,c,rfl,Ay.Cq ho,h1,h2⟩
def Cy (w:World) (G:PG.Gr) (e:Ending) (w':World):Prop:= ∃v,e=.returned v/\IsG w' G v/\Below w.heap.size w w'
theorem JC {w:World} {R K:Nat} {G:PG.Gr} {l:List PG.Cl} {e:Ending} {w':World} (h:Fj w R K (R*K) l e w') (hl:l=PG.cells G) (hR:G.rows=R) (hK:G.AB=K):Cy w G e w':=by
 subst hR hK hl
 obtain⟨g,rfl,ho,hb⟩:=h
 exact⟨_,rfl,⟨_,rfl,own_base' ho (Nat.zero_le _)⟩,hb⟩
section
variable {G H:PG.Gr} {v v':Value} {w:World}
theorem Ym {r c x:Int} {p:PG.Pn} {q k:Nat} (hr:r=q) (hc:c=k):PG.QB G r c x p=PG.Dj G q k x p:=by
 subst hr hc
 unfold PG.QB
 rw [if_pos (by omega)]
 rfl
theorem WG {r c x:Int} {p:PG.Pn} (h: ¬(0<=r/\r<G.rows/\0<=c/\1<=C.width x/\c+C.width x<=G.AB)):PG.QB G r c x p=G:=by
 unfold PG.QB
 split
 ·rename_i h0
  exact PG.YN (fun h1=>h (by omega))
 ·rfl
theorem fQ (hG:PG.BF G) (h:IsG w G v) (r c x:Int) (p:PG.Pn) (hr: -1000<=r/\r<=1000) (hc: -1000<=c/\c<=1000) (hx0: -2147483648<=x) (hx1:x<=2147483647) (hs:EZ w):
  Calls Tryz.prog 65 #[v,.int .i64 r,.int .i64 c,.int .i32 x,pv p] w (Cy w (PG.QB G r c x p)):=by
 obtain⟨A,cp,rfl,hl,h1,h2⟩:=h.open_
 have hw:=I9 x p
 by_cases hi:0<=r/\r<G.rows/\0<=c/\1<=C.width x/\c+C.width x<=G.AB
 ·obtain⟨q,rfl⟩:=Int.eq_ofNat_of_zero_le hi.1
  obtain⟨k,rfl⟩:=Int.eq_ofNat_of_zero_le hi.2.2.1
  rw [Ym rfl rfl]
  refine(Yg G.rows G.AB _ cp w.heap.size q k x p A _ w hl (Nat.le_refl _) rfl (by omega) hG.2.1 hG.2.2.1 hG.2.2.2.1 hx0 hx1 hs (by omega) (by omega)).mono fun e w' hm=>?_
  exact JC hm (PG.TD hG (by omega) hi.2.2.2.1 (by omega)) (PG.Ca ..).1 (PG.Ca ..).2
 ·rw [WG hi]
  refine(V7 G.rows G.AB _ cp w.heap.size r c x p A _ w hl (Nat.le_refl _) rfl hG.1 hG.2.1 hG.2.2.1 hG.2.2.2.1 hx0 hx1 hs hc.1 hc.2 (by have:=PG.Ew x;omega)).mono fun e w' hm=>?_
  exact JC hm rfl rfl rfl
def atI (G:PG.Gr) (r c:Int):Value:=if 0<=r/\r<G.rows/\0<=c/\c<G.AB then atv (G.f r.toNat c.toNat) true else atv PG.none false
theorem aj {r c:Nat} (hr:r<G.rows) (hc:c<G.AB):atI G r c=atv (G.f r c) true:=by
 unfold atI
 rw [if_pos (by omega)]
 rfl
theorem u_at (hG:PG.BF G) (h:IsG w G v) (r c:Int):Calls Tryz.prog 29 #[v,.int .i64 r,.int .i64 c] w fun e w'=>e=.returned (atI G r c)/\Below w.heap.size w w':=by
 obtain⟨A,cp,rfl,hl,h1,h2⟩:=h.open_
 by_cases hi:0<=r/\r<G.rows/\0<=c/\c<G.AB
 ·obtain⟨q,rfl⟩:=Int.eq_ofNat_of_zero_le hi.1
  obtain⟨k,rfl⟩:=Int.eq_ofNat_of_zero_le hi.2.2.1
  have hq:q<G.rows:=by omega
  have hk:k<G.AB:=by omega
  have:=ah G _ cp w.heap.size q k A w hl (Nat.le_refl _) rfl h1 h2 hq hk hG.2.1 hG.2.2.2.1
  rw [<- aj hq hk] at this
  exact this
 ·have hnn:0*G.AB+0<G.rows*G.AB:=PG.Bl hG.1 hG.2.2.1
  obtain⟨c0,hc0'⟩: ∃c0,(PG.cells G)[0]? =some c0:=⟨_,List.getElem?_eq_getElem (by rw [PG.Aq];omega)⟩
  obtain⟨ad,rfl,_⟩:=hl.at_ hc0'
  have e:atI G r c=atv PG.none false:=if_neg hi
  rw [e]
  exact Yk G.rows G.AB _ cp r c ad w rfl h1 h2 hG.1 hG.2.1 hG.2.2.1 hG.2.2.2.1 (by omega)
theorem size_le (hG:PG.BF G):G.rows*G.AB<=2400:=Nat.mul_le_mul hG.2.1 hG.2.2.2.1
theorem QC (hG:PG.BF G) (h:IsG w G v) (r:Nat) (hr:r<G.rows):Calls Tryz.prog 50 #[v,.int .i64 r] w fun e w'=>e=.returned (.string (strOfNums (PG.text (G.f r) G.AB)))/\Below w.heap.size w w':=by
 obtain⟨A,cp,rfl,hl,h1,h2⟩:=h.open_
 exact WA G _ cp w.heap.size r A w hG hl (Nat.le_refl _) rfl h1 h2 hr
end
end Go.Proofs.YtoaabebgmdbjeaaGreatDoor
namespace Go.Proofs.YtoaabebgmdbjeaaGreatDoor
open Go.RowKit
theorem OB (w:World): ∀k,(Value.slice (some ⟨w.heap.size,0,none⟩) 0 0).ownBlock=some k->w.heap.size<=k:=fun k hk=>by
 have:w.heap.size=k:=by simpa [Value.ownBlock] using hk
 omega
theorem Kl (n c B:Nat) (ad:Addr) (l:List PG.Cl) (w:World) (hl:Ay w B (some ad) n l) (hB:B<=w.heap.size) (hn:n<=1048576):
  Calls Tryz.prog 39 #[.slice (some ad) n c] w fun e w'=> ∃v,e=.returned v/\w'.ownsRow w.heap.size 66 5 v n (Af l)/\Below w.heap.size w w':=by
 obtain⟨i0,hi,hz0,hz1,hz2⟩:=info_parts Ci
 have qT: ∀(w:World) (a:Option Addr) (n c n' c':Nat),(binOp .eql 35 (.slice a n c) (.slice none n' c')).run Tryz.prog w=.ok (.bool a.isNone) w:=fun w a n c n' c'=>Lib.run_eql_slice_nil w _ _ a n c n' c' Tryz.underlying35
 have own0:=Vo (w:=w) (base:=w.heap.size) 66 rfl (Nat.le_refl _)
 have hs1:=(Ay.below hl (Below.alloc (Below.refl _ _) hB (.cells #[] 66)))
 go_enter Tryz.func39,Tryz.ntmps39
 go_wp2_with (
  at_builtin
  go_must (refine Nw rfl (.tmp 5) (.tmp 6) 35 rfl w.heap.size 66 i0 _ 40 Tryz.underlying35 hi hz0 hz1 hz2 rfl _ 0 [] rfl own0 B (some ad) n c l rfl hs1 (by omega) (by omega) (by simp) ?_)
  intro v1 w1 hown1 hg1 hm1)
 go_ret
 exact⟨_,rfl,by simpa using hown1,((Below.refl _ _).alloc (Nat.le_refl _) _).grown hg1 (by simp) (OB w)⟩
end Go.Proofs.YtoaabebgmdbjeaaGreatDoor
namespace Go.Proofs.YtoaabebgmdbjeaaGreatDoor
open Go.RowKit
def WJ (w:World) (G:PG.Gr) (g:Nat):Prop:= ∃s,Box w g 37 #[.int .i64 G.rows,.int .i64 G.AB,s] /\IsG w G (gv G.rows G.AB s)
theorem WJ.low {w w':World} {G:PG.Gr} {g:Nat} (h:WJ w G g) (b:Below w.heap.size w w'):WJ w' G g:=by
 obtain⟨s,h1,h2⟩:=h
 exact⟨s,h1.below b h1.lt,h2.low b⟩
theorem ak {R K:Nat} {s x y z:Value} (h:gv R K s=.agg #[x,y,z]):x=.int .i64 R/\y=.int .i64 K/\z=s:=by
 unfold gv at h
 injection h with h
 injection h with h
 injection h with h1 h
 injection h with h2 h
 injection h with h3 h
 exact⟨h1.symm,h2.symm,h3.symm⟩
theorem WJ.open_ {w:World} {G:PG.Gr} {g R K:Nat} (h:WJ w G g) (hR:G.rows=R) (hK:G.AB=K): ∃A c,Box w g 37 #[.int .i64 R,.int .i64 K,.slice A (R*K) c] /\Ay w w.heap.size A (R*K) (PG.cells G)/\R*K<=c/\c<=maxLen/\IsG w G (gv R K (.slice A (R*K) c)):=by
 subst hR hK
 obtain⟨s,h1,h2⟩:=h
 obtain⟨A,c,hs,h3,h4,h5⟩:=h2.open_
 obtain⟨-, -,rfl⟩:=ak hs
 exact⟨A,c,h1,h3,h4,h5,h2⟩
section
variable {ops:Array Oper} {S:List (Option Nat)} {w0 w:World} {olds:Nat->Array Value} {sh:Shape} {vals:Nat->Value} {grs:Nat->PG.Gr} {gs:Nat->Nat} {L:Nat->Bool} {u:Nat->Value}
end
end Go.Proofs.YtoaabebgmdbjeaaGreatDoor
namespace Go.Proofs.YtoaabebgmdbjeaaGreatDoor.PG
end Go.Proofs.YtoaabebgmdbjeaaGreatDoor.PG
namespace Go.Proofs.YtoaabebgmdbjeaaGreatDoor
end Go.Proofs.YtoaabebgmdbjeaaGreatDoor
namespace Go.Proofs.YtoaabebgmdbjeaaGreatDoor
open Go.RowKit
end Go.Proofs.YtoaabebgmdbjeaaGreatDoor
namespace Go.Proofs.YtoaabebgmdbjeaaGreatDoor
open Go.RowKit
end Go.Proofs.YtoaabebgmdbjeaaGreatDoor
namespace Go.Proofs.YtoaabebgmdbjeaaGreatDoor
open Go.RowKit
end Go.Proofs.YtoaabebgmdbjeaaGreatDoor
namespace Go.Proofs.YtoaabebgmdbjeaaGreatDoor
open Go.RowKit
namespace SN.Sc
def u3 (s:SN.Sc) (v:Nat):SN.Sc:={s with row:=v}
def u4 (s:SN.Sc) (v:Nat):SN.Sc:={s with col:=v}
def u5 (s:SN.Sc) (v:Bool):SN.Sc:={s with pend:=v}
def u6 (s:SN.Sc) (v:Nat):SN.Sc:={s with top:=v}
def u7 (s:SN.Sc) (v:Nat):SN.Sc:={s with bot:=v}
def u8 (s:SN.Sc) (v:Int):SN.Sc:={s with pen:=(v,s.pen.2.1,s.pen.2.2)}
def u9 (s:SN.Sc) (v:Int):SN.Sc:={s with pen:=(s.pen.1,v,s.pen.2.2)}
def u10 (s:SN.Sc) (v:Int):SN.Sc:={s with pen:=(s.pen.1,s.pen.2.1,v)}
def u11 (s:SN.Sc) (v:Nat):SN.Sc:={s with tabs:=v}
def u12 (s:SN.Sc) (v:Int):SN.Sc:={s with s0:=v}
def u13 (s:SN.Sc) (v:Int):SN.Sc:={s with s1:=v}
def u14 (s:SN.Sc) (v:Int):SN.Sc:={s with sh:=v}
def u15 (s:SN.Sc) (v:Bool):SN.Sc:={s with wrap:=v}
def u16 (s:SN.Sc) (v:Bool):SN.Sc:={s with org:=v}
def u17 (s:SN.Sc) (v:Bool):SN.Sc:={s with shown:=v}
def u18 (s:SN.Sc) (v:Bool):SN.Sc:={s with keys:=v}
def u19 (s:SN.Sc) (v:Bool):SN.Sc:={s with pad:=v}
def u20 (s:SN.Sc) (v:Nat):SN.Sc:={s with sv:={s.sv with row:=v}}
def u21 (s:SN.Sc) (v:Nat):SN.Sc:={s with sv:={s.sv with col:=v}}
def u22 (s:SN.Sc) (v:Int):SN.Sc:={s with sv:={s.sv with pen:=(v,s.sv.pen.2.1,s.sv.pen.2.2)}}
def u23 (s:SN.Sc) (v:Int):SN.Sc:={s with sv:={s.sv with pen:=(s.sv.pen.1,v,s.sv.pen.2.2)}}
def u24 (s:SN.Sc) (v:Int):SN.Sc:={s with sv:={s.sv with pen:=(s.sv.pen.1,s.sv.pen.2.1,v)}}
def u25 (s:SN.Sc) (v:Int):SN.Sc:={s with sv:={s.sv with s0:=v}}
def u26 (s:SN.Sc) (v:Int):SN.Sc:={s with sv:={s.sv with s1:=v}}
def u27 (s:SN.Sc) (v:Int):SN.Sc:={s with sv:={s.sv with sh:=v}}
def u28 (s:SN.Sc) (v:Bool):SN.Sc:={s with sv:={s.sv with org:=v}}
def uG (s:SN.Sc) (v:PG.Gr):SN.Sc:={s with g:=v}
def uP (s:SN.Sc) (v:PG.Pn):SN.Sc:={s with pen:=v}
def uS (s:SN.Sc) (a b:Int):SN.Sc:={s with s0:=a,s1:=b}
def uV (s:SN.Sc) (v:SN.Sv):SN.Sc:={s with sv:=v}
end SN.Sc
def scA (x:Value) (s:SN.Sc):Array Value:= #[.int .i64 s.g.rows,.int .i64 s.g.AB,x,.int .i64 s.row,.int .i64 s.col,.bool s.pend,.int .i64 s.top,.int .i64 s.bot,.int .i64 s.pen.1,.int .i64 s.pen.2.1,.int .i64 s.pen.2.2,.int .u64 s.tabs,.int .u8 s.s0,.int .u8 s.s1,.int .i64 s.sh,.bool s.wrap,.bool s.org,.bool s.shown,.bool s.keys,.bool s.pad,.int .i64 s.sv.row,.int .i64 s.sv.col,.int .i64 s.sv.pen.1,.int .i64 s.sv.pen.2.1,.int .i64 s.sv.pen.2.2,.int .u8 s.sv.s0,.int .u8 s.sv.s1,.int .i64 s.sv.sh,.bool s.sv.org]
theorem Km (x:Value) (s:SN.Sc):(scA x s).size=29:=rfl
theorem Yn {x:Value} (hx:x.oneCell'=true) (s:SN.Sc):(scA x s).all (·.oneCell')=true:=by
 cases x<;>first | (simp [scA,Value.oneCell'];done) | (simp [Value.oneCell'] at hx)
theorem TH (x:Value) (s:SN.Sc) (v:Nat):(scA x s).setIfInBounds 20 (.int .i64 (v:Nat))=scA x (s.u20 v):=rfl
theorem TI (x:Value) (s:SN.Sc) (v:Nat):(scA x s).setIfInBounds 21 (.int .i64 (v:Nat))=scA x (s.u21 v):=rfl
theorem TL (x:Value) (s:SN.Sc) (v:Int):(scA x s).setIfInBounds 22 (.int .i64 (v:Int))=scA x (s.u22 v):=rfl
theorem TM (x:Value) (s:SN.Sc) (v:Int):(scA x s).setIfInBounds 23 (.int .i64 (v:Int))=scA x (s.u23 v):=rfl
theorem TN (x:Value) (s:SN.Sc) (v:Int):(scA x s).setIfInBounds 24 (.int .i64 (v:Int))=scA x (s.u24 v):=rfl
theorem TP (x:Value) (s:SN.Sc) (v:Int):(scA x s).setIfInBounds 25 (.int .u8 (v:Int))=scA x (s.u25 v):=rfl
theorem TQ (x:Value) (s:SN.Sc) (v:Int):(scA x s).setIfInBounds 26 (.int .u8 (v:Int))=scA x (s.u26 v):=rfl
theorem TR (x:Value) (s:SN.Sc) (v:Int):(scA x s).setIfInBounds 27 (.int .i64 (v:Int))=scA x (s.u27 v):=rfl
theorem TS (x:Value) (s:SN.Sc) (v:Bool):(scA x s).setIfInBounds 28 (.bool v)=scA x (s.u28 v):=rfl
theorem WK (x y:Value) (s:SN.Sc) (g:PG.Gr):Ns (scA x s) 0 [.int .i64 g.rows,.int .i64 g.AB,y] =scA y (s.uG g):=rfl
theorem WL (x:Value) (s:SN.Sc) (v:SN.Sv):Ns (scA x s) 20 [.int .i64 v.row,.int .i64 v.col,.int .i64 v.pen.1,.int .i64 v.pen.2.1,.int .i64 v.pen.2.2,.int .u8 v.s0,.int .u8 v.s1,.int .i64 v.sh,.bool v.org] =scA x (s.uV v):=by
 simp only [Ns]
 rw [TH,TI,TL,TM,TN,TP,TQ,TR,TS]
 simp only [SN.Sc.u20,SN.Sc.u21,SN.Sc.u22,SN.Sc.u23,SN.Sc.u24,SN.Sc.u25,SN.Sc.u26,SN.Sc.u27,SN.Sc.u28,SN.Sc.uV]
def Ai (w:World) (g:Nat) (x:Value) (s:SN.Sc):Prop:=Box w g 43 (scA x s)
section
variable {w:World} {g:Nat} {x:Value} {s:SN.Sc}
theorem Ai.c0 (h:Ai w g x s):w.cell? ⟨g,0,none⟩=some (.int .i64 s.g.rows):=Box.cell h 0
theorem Ai.c1 (h:Ai w g x s):w.cell? ⟨g,1,none⟩=some (.int .i64 s.g.AB):=Box.cell h 1
theorem Ai.c2 (h:Ai w g x s):w.cell? ⟨g,2,none⟩=some (x):=Box.cell h 2
theorem Ai.c3 (h:Ai w g x s):w.cell? ⟨g,3,none⟩=some (.int .i64 s.row):=Box.cell h 3
theorem Ai.c4 (h:Ai w g x s):w.cell? ⟨g,4,none⟩=some (.int .i64 s.col):=Box.cell h 4
theorem Ai.c5 (h:Ai w g x s):w.cell? ⟨g,5,none⟩=some (.bool s.pend):=Box.cell h 5
theorem Ai.c6 (h:Ai w g x s):w.cell? ⟨g,6,none⟩=some (.int .i64 s.top):=Box.cell h 6
theorem Ai.c7 (h:Ai w g x s):w.cell? ⟨g,7,none⟩=some (.int .i64 s.bot):=Box.cell h 7
theorem Ai.c8 (h:Ai w g x s):w.cell? ⟨g,8,none⟩=some (.int .i64 s.pen.1):=Box.cell h 8
theorem Ai.c9 (h:Ai w g x s):w.cell? ⟨g,9,none⟩=some (.int .i64 s.pen.2.1):=Box.cell h 9
theorem Ai.c10 (h:Ai w g x s):w.cell? ⟨g,10,none⟩=some (.int .i64 s.pen.2.2):=Box.cell h 10
theorem Ai.c11 (h:Ai w g x s):w.cell? ⟨g,11,none⟩=some (.int .u64 s.tabs):=Box.cell h 11
theorem Ai.c12 (h:Ai w g x s):w.cell? ⟨g,12,none⟩=some (.int .u8 s.s0):=Box.cell h 12
theorem Ai.c13 (h:Ai w g x s):w.cell? ⟨g,13,none⟩=some (.int .u8 s.s1):=Box.cell h 13
theorem Ai.c14 (h:Ai w g x s):w.cell? ⟨g,14,none⟩=some (.int .i64 s.sh):=Box.cell h 14
theorem Ai.c15 (h:Ai w g x s):w.cell? ⟨g,15,none⟩=some (.bool s.wrap):=Box.cell h 15
theorem Ai.c16 (h:Ai w g x s):w.cell? ⟨g,16,none⟩=some (.bool s.org):=Box.cell h 16
theorem Ai.c17 (h:Ai w g x s):w.cell? ⟨g,17,none⟩=some (.bool s.shown):=Box.cell h 17
theorem Ai.c18 (h:Ai w g x s):w.cell? ⟨g,18,none⟩=some (.bool s.keys):=Box.cell h 18
theorem Ai.c19 (h:Ai w g x s):w.cell? ⟨g,19,none⟩=some (.bool s.pad):=Box.cell h 19
theorem Ai.c20 (h:Ai w g x s):w.cell? ⟨g,20,none⟩=some (.int .i64 s.sv.row):=Box.cell h 20
theorem Ai.c21 (h:Ai w g x s):w.cell? ⟨g,21,none⟩=some (.int .i64 s.sv.col):=Box.cell h 21
theorem Ai.c22 (h:Ai w g x s):w.cell? ⟨g,22,none⟩=some (.int .i64 s.sv.pen.1):=Box.cell h 22
theorem Ai.c23 (h:Ai w g x s):w.cell? ⟨g,23,none⟩=some (.int .i64 s.sv.pen.2.1):=Box.cell h 23
theorem Ai.c24 (h:Ai w g x s):w.cell? ⟨g,24,none⟩=some (.int .i64 s.sv.pen.2.2):=Box.cell h 24
theorem Ai.c25 (h:Ai w g x s):w.cell? ⟨g,25,none⟩=some (.int .u8 s.sv.s0):=Box.cell h 25
theorem Ai.c26 (h:Ai w g x s):w.cell? ⟨g,26,none⟩=some (.int .u8 s.sv.s1):=Box.cell h 26
theorem Ai.c27 (h:Ai w g x s):w.cell? ⟨g,27,none⟩=some (.int .i64 s.sv.sh):=Box.cell h 27
theorem Ai.c28 (h:Ai w g x s):w.cell? ⟨g,28,none⟩=some (.bool s.sv.org):=Box.cell h 28
theorem Ai.fz (h:Ai w g x s) (i:Nat):w.frozen? ⟨g,i,none⟩=false:=Box.frozen h i
theorem Ai.lt (h:Ai w g x s):g<w.heap.size:=Box.lt h
theorem Ai.CV (h:Ai w g x s) (v:Nat):Ai (w.setCell ⟨g,3,none⟩ (.int .i64 (v:Nat))) g x (s.u3 v):=Box.set h 3 _
theorem Ai.WM (h:Ai w g x s) (v:Nat):Ai (w.setCell ⟨g,4,none⟩ (.int .i64 (v:Nat))) g x (s.u4 v):=Box.set h 4 _
theorem Ai.JZ (h:Ai w g x s) (v:Bool):Ai (w.setCell ⟨g,5,none⟩ (.bool v)) g x (s.u5 v):=Box.set h 5 _
theorem Ai.au (h:Ai w g x s) (v:Nat):Ai (w.setCell ⟨g,6,none⟩ (.int .i64 (v:Nat))) g x (s.u6 v):=Box.set h 6 _
theorem Ai.ay (h:Ai w g x s) (v:Nat):Ai (w.setCell ⟨g,7,none⟩ (.int .i64 (v:Nat))) g x (s.u7 v):=Box.set h 7 _
theorem Ai.set8 (h:Ai w g x s) (v:Int):Ai (w.setCell ⟨g,8,none⟩ (.int .i64 (v:Int))) g x (s.u8 v):=Box.set h 8 _
theorem Ai.set9 (h:Ai w g x s) (v:Int):Ai (w.setCell ⟨g,9,none⟩ (.int .i64 (v:Int))) g x (s.u9 v):=Box.set h 9 _
theorem Ai.fU (h:Ai w g x s) (v:Int):Ai (w.setCell ⟨g,10,none⟩ (.int .i64 (v:Int))) g x (s.u10 v):=Box.set h 10 _
theorem Ai.WO (h:Ai w g x s) (v:Nat):Ai (w.setCell ⟨g,11,none⟩ (.int .u64 (v:Nat))) g x (s.u11 v):=Box.set h 11 _
theorem Ai.WQ (h:Ai w g x s) (v:Int):Ai (w.setCell ⟨g,12,none⟩ (.int .u8 (v:Int))) g x (s.u12 v):=Box.set h 12 _
theorem Ai.WR (h:Ai w g x s) (v:Int):Ai (w.setCell ⟨g,13,none⟩ (.int .u8 (v:Int))) g x (s.u13 v):=Box.set h 13 _
theorem Ai.WS (h:Ai w g x s) (v:Int):Ai (w.setCell ⟨g,14,none⟩ (.int .i64 (v:Int))) g x (s.u14 v):=Box.set h 14 _
theorem Ai.Z8 (h:Ai w g x s) (v:Bool):Ai (w.setCell ⟨g,15,none⟩ (.bool v)) g x (s.u15 v):=Box.set h 15 _
theorem Ai.Z9 (h:Ai w g x s) (v:Bool):Ai (w.setCell ⟨g,16,none⟩ (.bool v)) g x (s.u16 v):=Box.set h 16 _
theorem Ai.fV (h:Ai w g x s) (v:Bool):Ai (w.setCell ⟨g,17,none⟩ (.bool v)) g x (s.u17 v):=Box.set h 17 _
theorem Ai.fZ (h:Ai w g x s) (v:Bool):Ai (w.setCell ⟨g,18,none⟩ (.bool v)) g x (s.u18 v):=Box.set h 18 _
theorem Ai.aA (h:Ai w g x s) (v:Bool):Ai (w.setCell ⟨g,19,none⟩ (.bool v)) g x (s.u19 v):=Box.set h 19 _
theorem Ai.setP (h:Ai w g x s) (p:PG.Pn):Ai (((w.setCell ⟨g,8,none⟩ (.int .i64 p.1)).setCell ⟨g,9,none⟩ (.int .i64 p.2.1)).setCell ⟨g,10,none⟩ (.int .i64 p.2.2)) g x (s.uP p):=((Box.set h 8 _).set 9 _).set 10 _
theorem IsG.put {G:PG.Gr} {v:Value} {T:TypeId} {cs:Array Value} (h:IsG w G v) (hb:Box w g T cs) (hT:T≠66) (i:Nat) (u:Value):IsG (w.setCell ⟨g,i,none⟩ u) G v:=h.kept hb hT ((Kept.refl [some g] w).setCell (p:=⟨g,i,none⟩) (From.mem (by simp)) u)
theorem IsG.puts {G:PG.Gr} {v:Value} (h:IsG w G v) (hb:Ai w g x s) (i:Nat) (u:Value):IsG (w.setCell ⟨g,i,none⟩ u) G v:=h.put hb (by decide) i u
theorem Ai.kept {L:List (Option Nat)} {w':World} (h:Ai w g x s) (k:Kept L w w') (hg:some g∉L):Ai w' g x s:=Box.kept h k hg
theorem Ai.below {B:Nat} {w':World} (h:Ai w g x s) (hb:Below B w w') (hg:g<B):Ai w' g x s:=Box.below h hb hg
theorem Ai.far (h:Ai w g x s) {p:Addr} (hp:g≠p.block) (u:Value):Ai (w.setCell p u) g x s:=Box.far h hp u
theorem Ai.alloc (h:Ai w g x s) (o:Obj):Ai (w.alloc o) g x s:=Box.alloc h o
theorem Ai.drewN (h:Ai w g x s) (k:Nat):Ai (w.drewN k) g x s:=h
theorem Fp:(Tryz.prog.info? 43).map (·.size)=some 29:=by kernel_rfl
theorem IZ: ∃d,Tryz.prog.underlying 43=some d/\d.isRow=true:=⟨_,Tryz.underlying43,rfl⟩
theorem AQ {ops:Array Oper} {rest:List Oper} {op:Oper} {a:Act} {Q:Exit->Act->World->Prop} (h:Ai w g x s) (hgd:op.guard=none) (y:Operand) (ho:op.op=.load 43 y)
  (hx:a.eval y=.pointer (some ⟨g,0,none⟩)) (hk:wpList Tryz.prog ops Q rest (a.put op.dst (.agg (scA x s))) w):wpList Tryz.prog ops Q (op::rest) a w:=by
 obtain⟨d,hu,hd⟩:=IZ
 exact J5 h hgd _ y ho hx d hu hd Fp hk
theorem AJ {ops:Array Oper} {rest:List Oper} {op:Oper} {a:Act} {Q:Exit->Act->World->Prop} {cs:Array Value} (h:Box w g 43 cs) (hs:cs.size=29) (hgd:op.guard=none) (y z:Operand) (ho:op.op=.store 43 y z)
  (hx:a.eval y=.pointer (some ⟨g,0,none⟩)) (hy:a.eval z=.agg (scA x s)) (h1:x.oneCell'=true)
  (hk: ∀w',Ai w' g x s->Kept [some g] w w'->w'.heap.size=w.heap.size->wpList Tryz.prog ops Q rest (a.put op.dst undef) w'):wpList Tryz.prog ops Q (op::rest) a w:=
 JY h (hs.trans (Km x s).symm) hgd _ y z ho hx hy Fp (Yn h1 s) hk
theorem Bu {fn:Func} {t:Tmp} (h:fn.results= #[.cell t 43]) {tmps:Array Value} (ht:tmps.getD t undef=.pointer (some ⟨g,0,none⟩)) (hb:Ai w g x s):(results fn tmps).run Tryz.prog w=.ok (.agg (scA x s)) w:=by
 obtain⟨d,hu,hd⟩:=IZ
 have hl:=run_loadVar_mid (P:=Tryz.prog) w g 0 43 (scA x s).toList d (Box.rangeAt hb) hu hd Fp
 have ht':tmps[t]?.getD undef=.pointer (some ⟨g,0,none⟩):=by simpa using ht
 simp [results,h,ht',asAddr,hl]
end
end Go.Proofs.YtoaabebgmdbjeaaGreatDoor
namespace Go.Proofs.YtoaabebgmdbjeaaGreatDoor
open Go Go.RowKit
section
variable {P:Program} {ops:Array Oper} {rest:List Oper} {o:Oper} {a:Act} {w:World} {Q:Exit->Act->World->Prop}
theorem BG {x:Value} {s:SN.Sc} (hgd:o.guard=none) (y:Operand) (ho:o.op=.box 43 y) (hy:a.eval y=.agg (scA x s))
  (hk: ∀g w',Ai w' g x s->Below w.heap.size w w'->w.heap.size<=g->wpList P ops Q rest (a.put o.dst (.pointer (some ⟨g,0,none⟩))) w'):wpList P ops Q (o::rest) a w:=by
 refine wpList_plain hgd fun K hK=>?_
 unfold Oper.wp execOp
 simp only [ho,hy]
 have:=hk w.heap.size (w.alloc (.cells (scA x s) 43)) (Box.new w _ _) ((Below.refl _ _).alloc (Nat.le_refl _) _) (Nat.le_refl _)
 go_simp
 exact hK _ _ this
theorem BQ (hgd:o.guard=none) (ho:o.op=.alloc 43)
  (hk: ∀g w' cs,Box w' g 43 cs->cs.size=29->Below w.heap.size w w'->w.heap.size<=g->wpList Tryz.prog ops Q rest (a.put o.dst (.pointer (some ⟨g,0,none⟩))) w'):wpList Tryz.prog ops Q (o::rest) a w:=by
 refine wpList_plain hgd fun K hK=>?_
 unfold Oper.wp execOp
 simp only [ho]
 have:=fun cs hs=>hk w.heap.size (w.alloc (.cells cs 43)) cs (Box.new w _ _) hs ((Below.refl _ _).alloc (Nat.le_refl _) _) (Nat.le_refl _)
 go_simp
 exact hK _ _ (this _ rfl)
theorem Fq (hgd:o.guard=none) (v:Value) (h:(execOp a.eval o).run P w=.ok (.value v) w) (hk:wpList P ops Q rest (a.put o.dst v) w):wpList P ops Q (o::rest) a w:=by
 refine wpList_plain hgd fun K hK=>?_
 unfold Oper.wp
 rw [h]
 exact hK _ _ hk
theorem QD:(Tryz.prog.info? 41).map (·.size)=some 9:=by kernel_rfl
theorem J6 {x:Value} {s:SN.Sc} {g:Nat} (h:Ai w g x s) (v:SN.Sv) (hgd:o.guard=none) (y z:Operand) (ho:o.op=.store 41 y z) (hx:a.eval y=.pointer (some ⟨g,20,none⟩))
  (hy:a.eval z=.agg #[.int .i64 v.row,.int .i64 v.col,.int .i64 v.pen.1,.int .i64 v.pen.2.1,.int .i64 v.pen.2.2,.int .u8 v.s0,.int .u8 v.s1,.int .i64 v.sh,.bool v.org])
  (hk: ∀w',Ai w' g x (s.uV v)->Kept [some g] w w'->w'.heap.size=w.heap.size->wpList Tryz.prog ops Q rest (a.put o.dst undef) w'):wpList Tryz.prog ops Q (o::rest) a w:=
 E5 20 h (by show 20+9<=(scA x s).size;rw [Km];decide) hgd _ y z ho hx hy QD (by simp [Value.oneCell']) (fun w' h1 h2 h3=>hk w' (by
  have e:=WL x s v
  show Box w' g _ _
  rw [<- e]
  exact h1) h2 h3)
end
end Go.Proofs.YtoaabebgmdbjeaaGreatDoor
namespace Go.Proofs.YtoaabebgmdbjeaaGreatDoor
open Go.RowKit
def IsS (w:World) (S:SN.Sc) (v:Value):Prop:= ∃x,v=.agg (scA x S)/\IsG w S.g (gv S.g.rows S.g.AB x)
def Am (w:World) (S:SN.Sc) (e:Ending) (w':World):Prop:= ∃v,e=.returned v/\IsS w' S v/\Below w.heap.size w w'
theorem Ad {w:World} {G:PG.Gr} {x:Value} (h:IsG w G (gv G.rows G.AB x)): ∃A c,x=.slice A (G.rows*G.AB) c:=by
 obtain⟨A,c,e,_⟩:=h.open_
 simp only [gv,Value.agg.injEq] at e
 injection e with e
 simp only [List.cons.injEq] at e
 exact⟨A,c,e.2.2.1⟩
theorem OC {w:World} {G:PG.Gr} {A:Option Addr} {n c:Nat} (h:IsG w G (gv G.rows G.AB (.slice A n c))):Ay w w.heap.size A n (PG.cells G)/\n=G.rows*G.AB/\n<=c:=by
 obtain⟨A',c',e,hs,hc,_⟩:=h.open_
 simp only [gv,Value.agg.injEq] at e
 injection e with e
 simp only [List.cons.injEq] at e
 have e3:=e.2.2.1
 injection e3 with e4 e5 e6
 subst e4 e5 e6
 exact⟨hs,rfl,hc⟩
end Go.Proofs.YtoaabebgmdbjeaaGreatDoor
namespace Go.Proofs.YtoaabebgmdbjeaaGreatDoor
open Go.RowKit
def SN.pin (z:Int) (R:Nat):Nat:=(min (max z 0) ((R:Int)-1)).toNat
def SN.atS (s:SN.Sc) (r c:Int):SN.Sc:=((s.u3 (SN.pin r s.g.rows)).u4 (SN.pin c s.g.AB)).u5 false
end Go.Proofs.YtoaabebgmdbjeaaGreatDoor
namespace Go.Proofs.YtoaabebgmdbjeaaGreatDoor
open Go.RowKit
namespace SN
def cut (z:Int) (m:Nat):Nat:=(min (max z 1) (m:Int)).toNat
structure Rw where
 g:PG.Gr
 row:Int
 col:Int
 pend:Bool
 top:Int
 bot:Int
 pen:PG.Pn
 tabs:Nat
 s0:Int
 s1:Int
 sh:Int
 wrap:Bool
 org:Bool
 shown:Bool
 keys:Bool
 pad:Bool
 OD:Int
 OE:Int
 G6:PG.Pn
 t0:Int
 t1:Int
 th:Int
 so:Bool
def fq (x y h:Int):Bool:=(x==66||x==48)&&(y==66||y==48)&&(h==0||h==1)
def WT (g:PG.Gr) (r c:Int):Bool:=decide (0<=r/\r<g.rows)&&decide (0<=c/\c<g.AB)
def Rw.right (q:Rw):Bool:=WT q.g q.row q.col&&(decide (0<=q.top/\q.top<q.bot/\q.bot<q.g.rows)||decide (q.g.rows=1/\q.top=0/\q.bot=0))&&C.right q.pen.1 q.pen.2.1 q.pen.2.2&&fq q.s0 q.s1 q.sh&&(!q.pend||(q.wrap&&decide (q.col+1=q.g.AB)))&&WT q.g q.OD q.OE&&C.right q.G6.1 q.G6.2.1 q.G6.2.2&&fq q.t0 q.t1 q.th
def Rw.same (a b:Rw):Bool:=a.row==b.row&&a.col==b.col&&a.pend==b.pend&&a.top==b.top&&a.bot==b.bot&&decide (a.pen=b.pen)&&a.tabs==b.tabs&&a.s0==b.s0&&a.s1==b.s1&&a.sh==b.sh&&a.wrap==b.wrap&&a.org==b.org&&a.shown==b.shown&&a.keys==b.keys&&a.pad==b.pad&&
 (a.OD==b.OD&&a.OE==b.OE&&decide (a.G6=b.G6)&&a.t0==b.t0&&a.t1==b.t1&&a.th==b.th&&a.so==b.so)
end SN
def rwA (x:Value) (q:SN.Rw):Array Value:= #[.int .i64 q.g.rows,.int .i64 q.g.AB,x,.int .i64 q.row,.int .i64 q.col,.bool q.pend,.int .i64 q.top,.int .i64 q.bot,.int .i64 q.pen.1,.int .i64 q.pen.2.1,.int .i64 q.pen.2.2,.int .u64 q.tabs,.int .u8 q.s0,.int .u8 q.s1,.int .i64 q.sh,.bool q.wrap,.bool q.org,.bool q.shown,.bool q.keys,.bool q.pad,
 .int .i64 q.OD,.int .i64 q.OE,.int .i64 q.G6.1,.int .i64 q.G6.2.1,.int .i64 q.G6.2.2,.int .u8 q.t0,.int .u8 q.t1,.int .i64 q.th,.bool q.so]
end Go.Proofs.YtoaabebgmdbjeaaGreatDoor
namespace Go.Proofs.YtoaabebgmdbjeaaGreatDoor
open Go Go.RowKit
def BX (w:World) (g:Nat) (x:Value) (q:SN.Rw):Prop:=Box w g 43 (rwA x q)
section
variable {w:World} {g:Nat} {x:Value} {q:SN.Rw}
theorem BX.c0 (h:BX w g x q):w.cell? ⟨g,0,none⟩=some (.int .i64 q.g.rows):=Box.cell h 0
theorem BX.c1 (h:BX w g x q):w.cell? ⟨g,1,none⟩=some (.int .i64 q.g.AB):=Box.cell h 1
theorem BX.c2 (h:BX w g x q):w.cell? ⟨g,2,none⟩=some (x):=Box.cell h 2
theorem BX.c3 (h:BX w g x q):w.cell? ⟨g,3,none⟩=some (.int .i64 q.row):=Box.cell h 3
theorem BX.c4 (h:BX w g x q):w.cell? ⟨g,4,none⟩=some (.int .i64 q.col):=Box.cell h 4
theorem BX.c5 (h:BX w g x q):w.cell? ⟨g,5,none⟩=some (.bool q.pend):=Box.cell h 5
theorem BX.c6 (h:BX w g x q):w.cell? ⟨g,6,none⟩=some (.int .i64 q.top):=Box.cell h 6
theorem BX.c7 (h:BX w g x q):w.cell? ⟨g,7,none⟩=some (.int .i64 q.bot):=Box.cell h 7
theorem BX.c8 (h:BX w g x q):w.cell? ⟨g,8,none⟩=some (.int .i64 q.pen.1):=Box.cell h 8
theorem BX.c9 (h:BX w g x q):w.cell? ⟨g,9,none⟩=some (.int .i64 q.pen.2.1):=Box.cell h 9
theorem BX.c10 (h:BX w g x q):w.cell? ⟨g,10,none⟩=some (.int .i64 q.pen.2.2):=Box.cell h 10
theorem BX.c11 (h:BX w g x q):w.cell? ⟨g,11,none⟩=some (.int .u64 q.tabs):=Box.cell h 11
theorem BX.c12 (h:BX w g x q):w.cell? ⟨g,12,none⟩=some (.int .u8 q.s0):=Box.cell h 12
theorem BX.c13 (h:BX w g x q):w.cell? ⟨g,13,none⟩=some (.int .u8 q.s1):=Box.cell h 13
theorem BX.c14 (h:BX w g x q):w.cell? ⟨g,14,none⟩=some (.int .i64 q.sh):=Box.cell h 14
theorem BX.c15 (h:BX w g x q):w.cell? ⟨g,15,none⟩=some (.bool q.wrap):=Box.cell h 15
theorem BX.c16 (h:BX w g x q):w.cell? ⟨g,16,none⟩=some (.bool q.org):=Box.cell h 16
theorem BX.c17 (h:BX w g x q):w.cell? ⟨g,17,none⟩=some (.bool q.shown):=Box.cell h 17
theorem BX.c18 (h:BX w g x q):w.cell? ⟨g,18,none⟩=some (.bool q.keys):=Box.cell h 18
theorem BX.c19 (h:BX w g x q):w.cell? ⟨g,19,none⟩=some (.bool q.pad):=Box.cell h 19
theorem BX.c20 (h:BX w g x q):w.cell? ⟨g,20,none⟩=some (.int .i64 q.OD):=Box.cell h 20
theorem BX.c21 (h:BX w g x q):w.cell? ⟨g,21,none⟩=some (.int .i64 q.OE):=Box.cell h 21
theorem BX.c22 (h:BX w g x q):w.cell? ⟨g,22,none⟩=some (.int .i64 q.G6.1):=Box.cell h 22
theorem BX.c23 (h:BX w g x q):w.cell? ⟨g,23,none⟩=some (.int .i64 q.G6.2.1):=Box.cell h 23
theorem BX.c24 (h:BX w g x q):w.cell? ⟨g,24,none⟩=some (.int .i64 q.G6.2.2):=Box.cell h 24
theorem BX.c25 (h:BX w g x q):w.cell? ⟨g,25,none⟩=some (.int .u8 q.t0):=Box.cell h 25
theorem BX.c26 (h:BX w g x q):w.cell? ⟨g,26,none⟩=some (.int .u8 q.t1):=Box.cell h 26
theorem BX.c27 (h:BX w g x q):w.cell? ⟨g,27,none⟩=some (.int .i64 q.th):=Box.cell h 27
theorem BX.c28 (h:BX w g x q):w.cell? ⟨g,28,none⟩=some (.bool q.so):=Box.cell h 28
theorem BX.fz (h:BX w g x q) (i:Nat):w.frozen? ⟨g,i,none⟩=false:=Box.frozen h i
theorem BX.lt (h:BX w g x q):g<w.heap.size:=Box.lt h
theorem BX.kept {L:List (Option Nat)} {w':World} (h:BX w g x q) (k:Kept L w w') (hg:some g∉L):BX w' g x q:=Box.kept h k hg
theorem BX.below {B:Nat} {w':World} (h:BX w g x q) (hb:Below B w w') (hg:g<B):BX w' g x q:=Box.below h hb hg
theorem BX.alloc (h:BX w g x q) (o:Obj):BX (w.alloc o) g x q:=Box.alloc h o
variable {P:Program} {ops:Array Oper} {rest:List Oper} {o:Oper} {a:Act} {Q:Exit->Act->World->Prop}
end
end Go.Proofs.YtoaabebgmdbjeaaGreatDoor
namespace Go.Proofs.YtoaabebgmdbjeaaGreatDoor.SN
end Go.Proofs.YtoaabebgmdbjeaaGreatDoor.SN
namespace Go.Proofs.YtoaabebgmdbjeaaGreatDoor
open Go Go.RowKit
section
variable {P:Program} {ops:Array Oper} {rest:List Oper} {o o2 o3:Oper} {a:Act} {w:World} {Q:Exit->Act->World->Prop} {x:Value} {s T:SN.Sc}
theorem BK (hG:Hid (IsG w s.g (gv s.g.rows s.g.AB x))) (y:Operand) (h1:o.guard=none) (h2:o.op=.box 43 y) (h3:a.eval y=.agg (scA x s)) (h4:o2.guard=none) (h5:o2.op=.alloc 43)
  (hk: ∀g gR w2 csR,csR.size=29->Hid (Ai w2 g x s)->Hid (Below w.heap.size w w2)->Hid (Box w2 gR 43 csR)->Hid (IsG w2 s.g (gv s.g.rows s.g.AB x))->gR≠g->w.heap.size<=g->w.heap.size<=gR->
   wpList Tryz.prog ops Q rest ((a.put o.dst (.pointer (some ⟨g,0,none⟩))).put o2.dst (.pointer (some ⟨gR,0,none⟩))) w2):wpList Tryz.prog ops Q (o::o2::rest) a w:=by
 refine BG h1 y h2 h3 fun g w1 hB hb1 hg1=>?_
 refine BQ h4 h5 fun gR w2 csR hR hsR hb2 hgR=>?_
 have hl:=hB.lt
 have hz:=hb1.size
 have hW:=hb1.trans (hb2.mono hb1.size)
 exact hk g gR w2 csR hsR (hide (hB.below hb2 hB.lt)) (hide hW) (hide hR) (hide (hG.out.low hW)) (by omega) hg1 (by omega)
theorem DI {E:TypeId} {cs:Array Value} (hG:Hid (IsG w s.g (gv s.g.rows s.g.AB x))) (y:Operand) (h1:o.guard=none) (h2:o.op=.box 43 y) (h3:a.eval y=.agg (scA x s)) (z:Operand) (h6:o3.guard=none) (h7:o3.op=.box E z) (h8: ∀g,(a.put o.dst (.pointer (some ⟨g,0,none⟩))).eval z=.agg cs)
  (h4:o2.guard=none) (h5:o2.op=.alloc 43)
  (hk: ∀g gE gR w2 csR,csR.size=29->Hid (Ai w2 g x s)->Hid (Box w2 gE E cs)->Hid (Below w.heap.size w w2)->Hid (Box w2 gR 43 csR)->Hid (IsG w2 s.g (gv s.g.rows s.g.AB x))->gR≠g->g≠gE->gR≠gE->w.heap.size<=g->w.heap.size<=gR->
   wpList Tryz.prog ops Q rest (((a.put o.dst (.pointer (some ⟨g,0,none⟩))).put o3.dst (.pointer (some ⟨gE,0,none⟩))).put o2.dst (.pointer (some ⟨gR,0,none⟩))) w2):wpList Tryz.prog ops Q (o::o3::o2::rest) a w:=by
 refine BG h1 y h2 h3 fun g w1 hB hb1 hg1=>?_
 refine wpList_plain h6 fun K hK=>?_
 unfold Oper.wp execOp
 simp only [h7,h8 g]
 have hE:=Box.new w1 E cs
 have hbE:=(Below.refl w1.heap.size w1).alloc (Nat.le_refl _) (.cells cs E)
 have hl:=hB.lt
 have hz:=hb1.size
 have hsz:(w1.alloc (.cells cs E)).heap.size=w1.heap.size+1:=by simp
 have hbW:=hb1.trans (hbE.mono hb1.size)
 have:=hK _ _ (BQ (ops:=ops) (rest:=rest) (Q:=Q) (o:=o2) (a:=(a.put o.dst (.pointer (some ⟨g,0,none⟩))).put o3.dst (.pointer (some ⟨w1.heap.size,0,none⟩))) (w:=w1.alloc (.cells cs E)) h4 h5 fun gR w2 csR hR hsR hb2 hgR=>
  hk g w1.heap.size gR w2 csR hsR (hide ((hB.below hbE hl).below hb2 (by omega))) (hide (hE.below hb2 hE.lt)) (hide (hbW.trans (hb2.mono hbW.size))) (hide hR) (hide (hG.out.low (hbW.trans (hb2.mono hbW.size)))) (by omega) (by omega) (by omega) hg1 (by omega))
 go_simp
 exact this
end
section
variable {w0 w w1 w8:World} {s T:SN.Sc} {x:Value} {g gR gE:Nat} {cs csR:Array Value} {t:Tmp}
theorem Ak {K:Ending->World->Prop} (HR:Hid (Box w gR 43 csR)) (HW:Hid (Below w0.heap.size w0 w))
  (hk: ∀A c w',Hid (Box w' gR 43 csR)->Hid (Below w0.heap.size w0 w')->Hid (IsG w' T.g (gv T.g.rows T.g.AB (.slice A (T.g.rows*T.g.AB) c)))->K (.returned (.agg (scA (.slice A (T.g.rows*T.g.AB) c) T))) w'): ∀e w',Am w T e w'->K e w':=by
 rintro e w' ⟨v,rfl,⟨y,rfl,hg⟩,hb⟩
 obtain⟨A,c,rfl⟩:=Ad hg
 exact hk A c w' (hide (HR.out.below hb HR.out.lt)) (hide (HW.out.trans (hb.mono HW.out.size))) (hide hg)
theorem BJ {fn:Func} {a:Act} (h:fn.results= #[.cell t 43]) (ht:a.tmps.getD t undef=.pointer (some ⟨gR,0,none⟩)) (hd:a.defers= []) (hB:Ai w8 gR x T) (hG:Hid (IsG w T.g (gv T.g.rows T.g.AB x))) (HR:Hid (Box w gR 43 csR)) (HW:Hid (Below w0.heap.size w0 w)) (hk:Kept [some gR] w w8) (hgR:w0.heap.size<=gR):bodyPost Tryz.prog fn (Am w0 T) .ret a w8:=
 bodyPost_ret (Bu h ht hB) hd ⟨_,rfl,⟨_,rfl,hG.out.kept HR.out (by decide) hk⟩,HW.out.trans (hk.toBelow HW.out.size (fun k hh=>by simp at hh;omega))⟩
theorem Di (i:Nat) (u:Value) {G:PG.Gr} {y:Value} (HB:Hid (Ai w g x s)) (HR:Hid (Box w gR 43 csR)) (HW:Hid (Below w0.heap.size w0 w)) (HG:Hid (IsG w G y)) (hne:gR≠g) (hg:w0.heap.size<=g):
  Hid (Box (w.setCell ⟨g,i,none⟩ u) gR 43 csR)/\Hid (Below w0.heap.size w0 (w.setCell ⟨g,i,none⟩ u))/\Hid (IsG (w.setCell ⟨g,i,none⟩ u) G y):=
 ⟨hide (HR.out.far (p:=⟨g,i,none⟩) hne u),hide (HW.out.setCell (p:=⟨g,i,none⟩) hg u),hide (IsG.puts HG.out HB.out i u)⟩
theorem JD {G:PG.Gr} {y:Value} (hb:Below w.heap.size w w1) (HB:Hid (Ai w g x s)) (HR:Hid (Box w gR 43 csR)) (HW:Hid (Below w0.heap.size w0 w)) (HG:Hid (IsG w G y)):
  Hid (Ai w1 g x s)/\Hid (Box w1 gR 43 csR)/\Hid (Below w0.heap.size w0 w1)/\Hid (IsG w1 G y):=
 ⟨hide (HB.out.below hb HB.out.lt),hide (HR.out.below hb HR.out.lt),hide (HW.out.trans (hb.mono HW.out.size)),hide (HG.out.low hb)⟩
theorem Box.Ba {t:TypeId} {a b c d e f h:Value} (x:Box w g t #[a,b,c,d,e,f,h]):
  w.cell? ⟨g,0,none⟩=some a/\w.cell? ⟨g,1,none⟩=some b/\w.cell? ⟨g,2,none⟩=some c/\w.cell? ⟨g,3,none⟩=some d/\w.cell? ⟨g,4,none⟩=some e/\w.cell? ⟨g,5,none⟩=some f/\w.cell? ⟨g,6,none⟩=some h:=
 ⟨x.cell 0,x.cell 1,x.cell 2,x.cell 3,x.cell 4,x.cell 5,x.cell 6⟩
end
end Go.Proofs.YtoaabebgmdbjeaaGreatDoor
