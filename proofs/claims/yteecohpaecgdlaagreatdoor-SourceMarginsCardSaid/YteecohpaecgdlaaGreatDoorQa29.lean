/- lines kept outside the margins -/
import Derived.Test.YteecohpaecgdlaaGreatDoorQa26
set_option maxRecDepth 100000
set_option maxHeartbeats 16000000
set_option linter.unusedVariables false
namespace Go.Proofs.YteecohpaecgdlaaGreatDoor
open Go.RowKit
namespace PG
theorem Oa {g:Gr} {a b:Nat} {n:Int} {p:Pn} {y:Nat} (h:y<a\/b<y):(Al g a b n p).f y=g.f y:=by
 unfold Al
 split
 ·funext j
  exact if_neg (by omega)
 ·rfl
end PG
namespace SN
theorem Vw {s:Sc} (h:Ad s) {fn:Int} (hf:fn=76\/fn=77\/fn=83\/fn=84) (m:Int): ∀u,doS s 4 0 0 0 fn [m] =u->
  u.g.rows=s.g.rows/\u.g.AB=s.g.AB/\u.top=s.top/\u.bot=s.bot/\u.row=s.row/\ ∀y,y<s.top\/s.bot<y->u.g.f y=s.g.f y:=by
 have hp: ∀n:Int,(pin (s.row:Int) s.g.rows)=s.row:=fun _=>EY h.row
 have key: ∀n:Int,let u:=if InM s then atS (s.uG (PG.Al s.g s.row s.bot n (Aq s))) s.row 0 else s
   u.g.rows=s.g.rows/\u.g.AB=s.g.AB/\u.top=s.top/\u.bot=s.bot/\u.row=s.row/\ ∀y,y<s.top\/s.bot<y->u.g.f y=s.g.f y:=by
  intro n u
  show(if InM s then _ else s:Sc).g.rows=_/\_
  by_cases hi:InM s
  ·have e:u=atS (s.uG (PG.Al s.g s.row s.bot n (Aq s))) s.row 0:=if_pos hi
   have hz:=PG.Ch s.g s.row s.bot n (Aq s)
   rw [show(if InM s then atS (s.uG (PG.Al s.g s.row s.bot n (Aq s))) s.row 0 else s)=atS (s.uG (PG.Al s.g s.row s.bot n (Aq s))) s.row 0 from if_pos hi,e]
   refine⟨hz.1,hz.2,rfl,rfl,?_,fun y hy=>PG.Oa (by unfold InM at hi;omega)⟩
   show pin (s.row:Int) (PG.Al s.g s.row s.bot n (Aq s)).rows=s.row
   rw [hz.1]
   exact EY h.row
  ·have e:u=s:=if_neg hi
   rw [show(if InM s then atS (s.uG (PG.Al s.g s.row s.bot n (Aq s))) s.row 0 else s)=s from if_neg hi,e]
   exact⟨rfl,rfl,rfl,rfl,rfl,fun _ _=>rfl⟩
 have key2: ∀n:Int,(s.uG (PG.Al s.g s.top s.bot n (Aq s))).g.rows=s.g.rows/\(s.uG (PG.Al s.g s.top s.bot n (Aq s))).g.AB=s.g.AB/\s.top=s.top/\s.bot=s.bot/\s.row=s.row/\ ∀y,y<s.top\/s.bot<y->(PG.Al s.g s.top s.bot n (Aq s)).f y=s.g.f y:=
  fun n=>⟨(PG.Ch _ _ _ _ _).1,(PG.Ch _ _ _ _ _).2,rfl,rfl,rfl,fun y hy=>PG.Oa hy⟩
 rintro u rfl
 rcases hf with rfl | rfl | rfl | rfl
 ·exact key (-(BX [m] 0 1))
 ·exact key (BX [m] 0 1)
 ·exact key2 (BX [m] 0 1)
 ·exact key2 (-(BX [m] 0 1))
theorem Vx {s:Sc} (h:Ad s) {a b:Nat} (hl:a<b) (hb:b<s.g.rows): ∀t,IU ((s.u6 a).u7 b)=t->t.top=a/\t.bot=b/\t.col=0/\(t.org=true->t.row=a)/\(t.org=false->t.row=0):=by
 rintro t rfl
 have hR:=h.g.1
 have hK:=h.g.2.2.1
 refine⟨rfl,rfl,?_,fun ho=>?_,fun ho=>?_⟩
 ·show pin 0 s.g.AB=0
  exact EY (r:=0) (by omega)
 ·have ho2:s.org=true:=ho
  show pin (goR ((s.u6 a).u7 b) 0) s.g.rows=a
  unfold goR
  rw [if_pos (show((s.u6 a).u7 b).org=true from ho2)]
  show pin (min ((a:Int)+0) b) s.g.rows=a
  rw [show min ((a:Int)+0) (b:Int)=(a:Nat) by omega]
  exact EY (by omega)
 ·have ho2:s.org=false:=ho
  show pin (goR ((s.u6 a).u7 b) 0) s.g.rows=0
  unfold goR
  rw [if_neg (show¬((s.u6 a).u7 b).org=true by show¬s.org=true;rw [ho2];simp)]
  exact EY (r:=0) (by omega)
end SN
end Go.Proofs.YteecohpaecgdlaaGreatDoor
