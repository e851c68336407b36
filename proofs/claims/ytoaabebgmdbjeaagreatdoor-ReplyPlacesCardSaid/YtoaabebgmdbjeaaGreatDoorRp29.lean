/- ReplyPlaces told of any arguments. -/
import Derived.Test.YtoaabebgmdbjeaaGreatDoorRp28
set_option maxRecDepth 100000
set_option maxHeartbeats 16000000
set_option linter.unusedVariables false
namespace Go.Proofs.YtoaabebgmdbjeaaGreatDoor
open Go.RowKit
theorem Kn (rw cl:Int) (Ap:Option Addr) (np cp:Nat) (lp:List Int) (At:Option Addr) (nt ct:Nat) (lt:List Int) (a b c d e p q r u n1 n2:Int) (b1:Bool) (w:World)
  (hr:(Lit.int .i64 rw).wf=true) (hc:(Lit.int .i64 cl).wf=true) (hp:Arg .i64 w Ap np cp lp) (ht:Arg .i64 w At nt ct lt) (ha:(Lit.int .i64 a).wf=true) (hb:(Lit.int .i64 b).wf=true) (hc':(Lit.int .i64 c).wf=true) (hd:(Lit.int .i64 d).wf=true) (he:(Lit.int .i64 e).wf=true)
  (hp0:(Lit.int .i64 p).wf=true) (hp1:(Lit.int .i64 q).wf=true) (hp2:(Lit.int .i64 r).wf=true) (hu:(Lit.int .u64 u).wf=true)
  (hn1:(Lit.int .i64 n1).wf=true) (hn2:(Lit.int .i64 n2).wf=true) (h1:FJ w) (h2:GY w) (h3:Ji w) (h4:DL w) (h5:Ia w) (h6:J9 w):
  Calls Tryz.prog 10 #[.agg #[.int .i64 rw,.int .i64 cl,.slice Ap np cp,.slice At nt ct,.int .i64 a,.int .i64 b,.int .i64 c,.int .i64 d,.int .i64 e,.int .i64 p,.int .i64 q,.int .i64 r,.int .u64 u],.int .i64 n1,.int .i64 n2,.bool b1] w fun e w'=>e=.returned (.bool true)/\Below w.heap.size w w':=by
 obtain⟨S,hS,hR5,hK9,KS⟩:=Rn rw cl Ap np cp lp At nt ct lt a b c d e p q r u w hr hc hp ht ha hb hc' hd he hp0 hp1 hp2 hu
 have b1':=bounds_i64 hn1
 have b2':=bounds_i64 hn2
 exact M5 _ n1 n2 b1 S w rfl hS hR5 hK9 ⟨h1,h2,h3,h4⟩ h5 h6 (by omega) (by omega) KS
end Go.Proofs.YtoaabebgmdbjeaaGreatDoor
