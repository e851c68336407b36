/- SourceMargins told of any arguments. -/
import Derived.Test.YteecohpaecgdlaaGreatDoorQa30
set_option maxRecDepth 100000
set_option maxHeartbeats 16000000
set_option linter.unusedVariables false
namespace Go.Proofs.YteecohpaecgdlaaGreatDoor
open Go.RowKit
theorem LX (rw cl:Int) (Ap:Option Addr) (np cp:Nat) (lp:List Int) (At:Option Addr) (nt ct:Nat) (lt:List Int) (a b c d e p q r u n1 n2 n3:Int) (w:World)
  (hr:(Lit.int .i64 rw).wf=true) (hc:(Lit.int .i64 cl).wf=true) (hp:Arg .i64 w Ap np cp lp) (ht:Arg .i64 w At nt ct lt) (ha:(Lit.int .i64 a).wf=true) (hb:(Lit.int .i64 b).wf=true) (hc':(Lit.int .i64 c).wf=true) (hd:(Lit.int .i64 d).wf=true) (he:(Lit.int .i64 e).wf=true)
  (hp0:(Lit.int .i64 p).wf=true) (hp1:(Lit.int .i64 q).wf=true) (hp2:(Lit.int .i64 r).wf=true) (hu:(Lit.int .u64 u).wf=true) (gZ:(Lit.int .i64 n1).wf=true) (hwn2:(Lit.int .i64 n2).wf=true) (rG:(Lit.int .i64 n3).wf=true) (h1:DZ w) (h2:FR w) (h3:JY w) (h4:Cw w) (h5:Ez w):
  Calls Tryz.prog 10 #[.agg #[.int .i64 rw,.int .i64 cl,.slice Ap np cp,.slice At nt ct,.int .i64 a,.int .i64 b,.int .i64 c,.int .i64 d,.int .i64 e,.int .i64 p,.int .i64 q,.int .i64 r,.int .u64 u],.int .i64 n1,.int .i64 n2,.int .i64 n3] w fun e w'=>e=.returned (.bool true)/\Below w.heap.size w w':=by
 obtain⟨S,hS,hR5,hK9,KS⟩:=Ke rw cl Ap np cp lp At nt ct lt a b c d e p q r u w hr hc hp ht ha hb hc' hd he hp0 hp1 hp2 hu
 obtain⟨i,hi⟩: ∃i:Nat,0+n1%(9-0+1)=(i:Int):=⟨(0+n1%(9-0+1)).toNat,by omega⟩
 obtain⟨p1,hp_⟩: ∃i:Nat,0+n2%(9-0+1)=(i:Int):=⟨(0+n2%(9-0+1)).toNat,by omega⟩
 obtain⟨q1,hq_⟩: ∃i:Nat,1+n3%(6-1+1)=(i:Int):=⟨(1+n3%(6-1+1)).toNat,by omega⟩
 have b1:=bounds_i64 gZ
 have b2:=bounds_i64 hwn2
 have b3:=bounds_i64 rG
 exact Mg _ n1 n2 n3 i p1 q1 S w rfl hS hR5 hK9 ⟨h1,h2,h3,h4⟩ h5 (by omega) (by omega) (by omega) (by omega) KS
  (hide fun w'=>BU n1 0 9 _ hi w' b1.1 b1.2 (by omega) (by omega) (by omega))
  (hide fun w'=>BU n2 0 9 _ hp_ w' b2.1 b2.2 (by omega) (by omega) (by omega))
  (hide fun w'=>BU n3 1 6 _ hq_ w' b3.1 b3.2 (by omega) (by omega) (by omega))
end Go.Proofs.YteecohpaecgdlaaGreatDoor
