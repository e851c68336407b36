/- An argument that is a slice of linguistkeep's Events, opened. -/
import Derived.Test.YtoaabebgmdbjeaaGreatDoorRq28
set_option maxRecDepth 100000
set_option maxHeartbeats 16000000
set_option linter.unusedVariables false
namespace Go.Proofs.YtoaabebgmdbjeaaGreatDoor
open Go Go.Joins Go.ChangeShapes Go.WideShapes Go.RowKit Go.Deep
theorem Arg.below {k:IntKind} {w w':World} {A:Option Addr} {n c:Nat} {l:List Int} (h:Arg k w A n c l) (b:Below w.heap.size w w'):Arg k w' A n c l:=
 ⟨h.len,(h.seen.below b).more b.size,h.wf,h.le,h.cap,h.nil⟩
structure gY (w:World) (kd rn fn:Int) (Ap:Option Addr) (np cp:Nat) (lp:List Int) (At:Option Addr) (nt ct:Nat) (lt:List Int):Prop where
 hk: -9223372036854775808<=kd/\kd<=9223372036854775807
 hr: -9223372036854775808<=rn/\rn<=9223372036854775807
 hf: -9223372036854775808<=fn/\fn<=9223372036854775807
 hP:Arg .i64 w Ap np cp lp
 hT:Arg .u8 w At nt ct lt
theorem gY.below {w w':World} {kd rn fn:Int} {Ap:Option Addr} {np cp:Nat} {lp:List Int} {At:Option Addr} {nt ct:Nat} {lt:List Int} (h:gY w kd rn fn Ap np cp lp At nt ct lt) (b:Below w.heap.size w w'):gY w' kd rn fn Ap np cp lp At nt ct lt:=
 ⟨h.hk,h.hr,h.hf,h.hP.below b,h.hT.below b⟩
def Oq (w:World) (A:Option Addr) (n:Nat):Prop:=
 ∀i,i<n-> ∃(ad:Addr) (kd rn fn:Int) (Ap:Option Addr) (np cp:Nat) (lp:List Int) (At:Option Addr) (nt ct:Nat) (lt:List Int),A=some ad/\ad.block<w.heap.size/\
  w.cell? (ad.add (i*5))=some (.int .i64 kd)/\w.cell? ⟨(ad.add (i*5)).block,(ad.add (i*5)).off+1,none⟩=some (.int .i64 rn)/\w.cell? ⟨(ad.add (i*5)).block,(ad.add (i*5)).off+2,none⟩=some (.int .i64 fn)/\w.cell? ⟨(ad.add (i*5)).block,(ad.add (i*5)).off+3,none⟩=some (.slice Ap np cp)/\w.cell? ⟨(ad.add (i*5)).block,(ad.add (i*5)).off+4,none⟩=some (.slice At nt ct)/\
  gY w kd rn fn Ap np cp lp At nt ct lt
theorem Oq.below {w w':World} {A:Option Addr} {n:Nat} (h:Oq w A n) (b:Below w.heap.size w w'):Oq w' A n:=fun i hi=>by
 obtain⟨ad,kd,rn,fn,Ap,np,cp,lp,At,nt,ct,lt,h1,h2,c0,c1,c2,c3,c4,hk⟩:=h i hi
 have cz:w'.cell? (ad.add (i*5))=w.cell? (ad.add (i*5)):=b.cell (p:=ad.add (i*5)) (by rw [addBlock];exact h2)
 have cc: ∀j,w'.cell? ⟨(ad.add (i*5)).block,j,none⟩=w.cell? ⟨(ad.add (i*5)).block,j,none⟩:=fun j=>b.cell (p:=⟨(ad.add (i*5)).block,j,none⟩) (by show(ad.add (i*5)).block<_;rw [addBlock];exact h2)
 exact⟨ad,kd,rn,fn,Ap,np,cp,lp,At,nt,ct,lt,h1,Nat.lt_of_lt_of_le h2 b.size,cz.trans c0,(cc _).trans c1,(cc _).trans c2,(cc _).trans c3,(cc _).trans c4,hk.below b⟩
theorem gq (a:Addr) (k j:Nat) (hj:j≠0):a.add (k+j)=⟨(a.add k).block,(a.add k).off+j,none⟩:=by
 rw [<- add_add]
 generalize a.add k=b
 simp [Addr.add,hj]
theorem Ui {H:Type} {enc:TypeId × Value->H} {w:World} {held:Bool} {A:Option Addr} {n c:Nat} {d:DataW H} {p:List MemPlace} (h:DataW.Trod enc Tryz.prog w 0 (fun _=>true) held 53 (.slice A n c) d p):n<=maxLen/\Oq w A n:=by
 obtain⟨fuel,hf⟩:=h
 obtain⟨fs,hfs⟩: ∃fs,Tryz.prog.underlying 32=some (.struct fs):=⟨_,Tryz.underlying32⟩
 rcases Lc (n:=fuel) Tryz.underlying53 Tryz.underlying32 (by kernel_rfl) (by kernel_rfl) hf with h0 | ⟨a,len,cap,hv,hl,hm,hi⟩
 ·injection h0 with h1 h2 _
  subst h2
  exact⟨Nat.zero_le _,fun i hi=>by omega⟩
 ·injection hv with h1 h2 h3
  subst h1 h2 h3
  refine⟨Nat.le_trans hl hm,fun i hin=>?_⟩
  obtain⟨m,hj⟩:=hi i hin
  obtain⟨u0,y0,c0,t0⟩:=hj 0 _ rfl
  obtain⟨u1,y1,c1,t1⟩:=hj 1 _ rfl
  obtain⟨u2,y2,c2,t2⟩:=hj 2 _ rfl
  obtain⟨u3,y3,c3,t3⟩:=hj 3 _ rfl
  obtain⟨u4,y4,c4,t4⟩:=hj 4 _ rfl
  obtain⟨kd,rfl,w0⟩:=Gz Tryz.underlying3 t0
  obtain⟨rn,rfl,w1⟩:=Gz Tryz.underlying3 t1
  obtain⟨fn,rfl,w2⟩:=Gz Tryz.underlying3 t2
  obtain⟨Ap,np,cp,lp,rfl,ap⟩:=Eb (k:=.i64) Tryz.underlying22 Tryz.underlying3 (by kernel_rfl) t3
  obtain⟨At,nt,ct,lt,rfl,at_⟩:=Eb (k:=.u8) Tryz.underlying30 Tryz.underlying5 (by kernel_rfl) t4
  have c0:w.cell? (a.add (i*5))=some (.int .i64 kd):=c0
  have c1:w.cell? (a.add (i*5+1))=some (.int .i64 rn):=c1
  have c2:w.cell? (a.add (i*5+2))=some (.int .i64 fn):=c2
  have c3:w.cell? (a.add (i*5+3))=some (.slice Ap np cp):=c3
  have c4:w.cell? (a.add (i*5+4))=some (.slice At nt ct):=c4
  rw [gq a _ _ (by omega)] at c1 c2 c3 c4
  have hb:=World.block_lt_of_cell? w _ c0
  rw [addBlock] at hb
  exact⟨a,kd,rn,fn,Ap,np,cp,lp,At,nt,ct,lt,rfl,hb,c0,c1,c2,c3,c4,bounds_i64 w0,bounds_i64 w1,bounds_i64 w2,ap,at_⟩
end Go.Proofs.YtoaabebgmdbjeaaGreatDoor
