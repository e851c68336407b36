/- A part of the proof: SeqMake, ScrBrief, RegBrief, TabsFun. -/
import Derived.Test.YtoaabebgmdbjeaaDoorRa07
import Derived.Laws.ShiftsVar
import Derived.Shelf.Spec.TrailingZeros
set_option maxRecDepth 100000
set_option maxHeartbeats 16000000
set_option linter.unusedVariables false
namespace Go.Proofs.YtoaabebgmdbjeaaDoor
open Go.RowKit
def Made (w:World) (p f:Int) (l:List Int) (e:Ending) (w':World):Prop:=
 ∃v',e=.returned (.agg #[.int .i64 4,.int .i32 0,.int .u8 p,.int .u8 0,.int .u8 f,v',.string ⟨#[]⟩])/\w'.ownsRow w.heap.size 3 1 v' l.length (Aj l)/\Below w.heap.size w w'
def Ac (l:List Int):List Int:=if l= [-1] then [] else l
section
variable {w w1:World} {g B:Nat} {t:TypeId} {a b c d e f h:Value}
theorem Box.Dt (bx:Box w1 g t #[a,b,c,d,e,f,h]) (p0 p1 p2 p3 p4 p5 p6:Value):Box (((((((w1.setCell ⟨g,0,none⟩ p0).setCell ⟨g,1,none⟩ p1).setCell ⟨g,2,none⟩ p2).setCell ⟨g,3,none⟩ p3).setCell ⟨g,4,none⟩ p4).setCell ⟨g,5,none⟩ p5).setCell ⟨g,6,none⟩ p6) g t #[p0,p1,p2,p3,p4,p5,p6] :=by
 have:=((((((bx.set 0 p0).set 1 p1).set 2 p2).set 3 p3).set 4 p4).set 5 p5).set 6 p6
 simpa using this
theorem Al (hb:Below B w w1) (hg:B<=g) (p0 p1 p2 p3 p4 p5 p6:Value):Below B w (((((((w1.setCell ⟨g,0,none⟩ p0).setCell ⟨g,1,none⟩ p1).setCell ⟨g,2,none⟩ p2).setCell ⟨g,3,none⟩ p3).setCell ⟨g,4,none⟩ p4).setCell ⟨g,5,none⟩ p5).setCell ⟨g,6,none⟩ p6):=
 ((((((hb.setCell hg _).setCell hg _).setCell hg _).setCell hg _).setCell hg _).setCell hg _).setCell hg _
theorem FE {base size n:Nat} {et:TypeId} {v:Value} {xs:List Value} (ho:w1.ownsRow base et size v n xs) (hg:v.ownBlock≠some g) (p0 p1 p2 p3 p4 p5 p6:Value):(((((((w1.setCell ⟨g,0,none⟩ p0).setCell ⟨g,1,none⟩ p1).setCell ⟨g,2,none⟩ p2).setCell ⟨g,3,none⟩ p3).setCell ⟨g,4,none⟩ p4).setCell ⟨g,5,none⟩ p5).setCell ⟨g,6,none⟩ p6).ownsRow base et size v n xs:=
 CG (CG (CG (CG (CG (CG (CG ho hg _) hg _) hg _) hg _) hg _) hg _) hg _
end
theorem OO (f:Int) (A:Option Addr) (n c:Nat) (l:List Int) (w:World) (hA:Seen w w.heap.size A n (Aj l)) (hn:n<=1099511627776):
  Calls Tryd.prog 7 #[.int .u8 f,.slice A n c] w (Made w 0 f (Ac l)):=by
 have hl:l.length=n:=by simpa [Aj] using hA.1
 have OW:=hide (fun (o:Obj)=>Km A n c l (w.alloc o) ((hA.alloc (Nat.le_refl _) _).more (by simp)) hn)
 have ON:=hide (fun (o:Obj)=>Km none 0 0 [] (w.alloc o) (Seen.Dz _ _ _) (by omega))
 have HL:=hide hl
 by_cases h1:n=1
 ·obtain⟨ad,u,rfl,_,hu,hc⟩:=hA.at_ (k:=0) (by omega)
  rw [Aj,List.getElem?_map] at hu
  obtain⟨x,hx,rfl⟩:=Option.map_eq_some_iff.1 hu
  have hll:l= [x] :=by
   rcases l with _ | ⟨y,_ | ⟨z,l⟩⟩<;>simp at hl hx<;>try omega
   subst hx
   rfl
  rw [show ad.add 0=ad from by simp [Addr.add]] at hc
  have hac:=fun o=>(World.cell?_alloc_lt w o ad (World.block_lt_of_cell? w ad hc)).trans hc
  have hd0:((n:Int)==1)=true:=by simp [h1]
  subst h1
  by_cases hx1:x= -1
  ·have HE:=hide (show Ac l= [] by unfold Ac;rw [hll,hx1];rfl)
   have hd:(x== -1)=true:=by simpa using hx1
   clear hA hl hu hx hll hx1
   go_enter Tryd.func7,Tryd.ntmps7
   go_wp2_with fail
   refine(ON.out _).mono ?_
   rintro e w1 ⟨v1,rfl,h1,b1⟩
   obtain⟨A1,c1,rfl,_⟩:=Bf h1
   have bx:=(Box.new w 38 #[.int .i64 0,.int .i32 0,.int .u8 0,.int .u8 0,.int .u8 0,.slice none 0 0,.string ⟨#[]⟩]).below b1 (by simp)
   have fr:=bx.frozen
   obtain⟨k0,k1,k2,k3,k4,k5,k6⟩:=Box.seven bx
   have bb:Below w.heap.size w w1:=((Below.refl _ w).alloc (Nat.le_refl _) _).trans (b1.mono (by simp))
   go_wp2_with fail
   obtain⟨j0,j1,j2,j3,j4,j5,j6⟩:=Box.seven (Box.Dt bx (.int .i64 4) (.int .i32 0) (.int .u8 0) (.int .u8 0) (.int .u8 f) (.slice A1 0 c1) (.string ⟨#[]⟩))
   have ow:=FE h1 (AP h1 bx (by decide)) (.int .i64 4) (.int .i32 0) (.int .u8 0) (.int .u8 0) (.int .u8 f) (.slice A1 0 c1) (.string ⟨#[]⟩)
   have bl:=Al bb (Nat.le_refl _) (.int .i64 4) (.int .i32 0) (.int .u8 0) (.int .u8 0) (.int .u8 f) (.slice A1 0 c1) (.string ⟨#[]⟩)
   generalize (((((((w1.setCell ⟨w.heap.size,0,none⟩ (.int .i64 4)).setCell ⟨w.heap.size,1,none⟩ (.int .i32 0)).setCell ⟨w.heap.size,2,none⟩ (.int .u8 0)).setCell ⟨w.heap.size,3,none⟩ (.int .u8 0)).setCell ⟨w.heap.size,4,none⟩ (.int .u8 f)).setCell ⟨w.heap.size,5,none⟩ (.slice A1 0 c1)).setCell ⟨w.heap.size,6,none⟩ (.string ⟨#[]⟩))=W at*
   refine bodyPost_ret (v:=.agg #[.int .i64 4,.int .i32 0,.int .u8 0,.int .u8 0,.int .u8 f,.slice A1 0 c1,.string ⟨#[]⟩]) (by simp [results,Tryd.results7,go_sem,j0,j1,j2,j3,j4,j5,j6]) rfl ⟨_,rfl,?_,bl⟩
   rw [HE.out]
   exact own_base' ow (by simp)
  ·have HE:=hide (show Ac l=l by unfold Ac;rw [if_neg];rw [hll];simpa using hx1)
   have hd:(x== -1)=false:=by simpa using hx1
   clear hA hu hx hll hx1 hl
   go_enter Tryd.func7,Tryd.ntmps7
   go_wp2_with fail
   refine(OW.out _).mono ?_
   rintro e w1 ⟨v1,rfl,h1,b1⟩
   obtain⟨A1,c1,rfl,_⟩:=Bf h1
   have bx:=(Box.new w 38 #[.int .i64 0,.int .i32 0,.int .u8 0,.int .u8 0,.int .u8 0,.slice none 0 0,.string ⟨#[]⟩]).below b1 (by simp)
   have fr:=bx.frozen
   obtain⟨k0,k1,k2,k3,k4,k5,k6⟩:=Box.seven bx
   have bb:Below w.heap.size w w1:=((Below.refl _ w).alloc (Nat.le_refl _) _).trans (b1.mono (by simp))
   go_wp2_with fail
   obtain⟨j0,j1,j2,j3,j4,j5,j6⟩:=Box.seven (Box.Dt bx (.int .i64 4) (.int .i32 0) (.int .u8 0) (.int .u8 0) (.int .u8 f) (.slice A1 1 c1) (.string ⟨#[]⟩))
   have ow:=FE h1 (AP h1 bx (by decide)) (.int .i64 4) (.int .i32 0) (.int .u8 0) (.int .u8 0) (.int .u8 f) (.slice A1 1 c1) (.string ⟨#[]⟩)
   have bl:=Al bb (Nat.le_refl _) (.int .i64 4) (.int .i32 0) (.int .u8 0) (.int .u8 0) (.int .u8 f) (.slice A1 1 c1) (.string ⟨#[]⟩)
   generalize (((((((w1.setCell ⟨w.heap.size,0,none⟩ (.int .i64 4)).setCell ⟨w.heap.size,1,none⟩ (.int .i32 0)).setCell ⟨w.heap.size,2,none⟩ (.int .u8 0)).setCell ⟨w.heap.size,3,none⟩ (.int .u8 0)).setCell ⟨w.heap.size,4,none⟩ (.int .u8 f)).setCell ⟨w.heap.size,5,none⟩ (.slice A1 1 c1)).setCell ⟨w.heap.size,6,none⟩ (.string ⟨#[]⟩))=W at*
   refine bodyPost_ret (v:=.agg #[.int .i64 4,.int .i32 0,.int .u8 0,.int .u8 0,.int .u8 f,.slice A1 1 c1,.string ⟨#[]⟩]) (by simp [results,Tryd.results7,go_sem,j0,j1,j2,j3,j4,j5,j6]) rfl ⟨_,rfl,?_,bl⟩
   rw [HE.out,HL.out]
   exact own_base' ow (by simp)
 ·have HE:=hide (show Ac l=l by unfold Ac;rw [if_neg (fun e=>h1 (by rw [<- hl,e];rfl))])
  have hd0:((n:Int)==1)=false:=by simp;omega
  clear hA hl h1
  ·go_enter Tryd.func7,Tryd.ntmps7
   go_wp2_with fail
   refine(OW.out _).mono ?_
   rintro e w1 ⟨v1,rfl,h1,b1⟩
   obtain⟨A1,c1,rfl,_⟩:=Bf h1
   have bx:=(Box.new w 38 #[.int .i64 0,.int .i32 0,.int .u8 0,.int .u8 0,.int .u8 0,.slice none 0 0,.string ⟨#[]⟩]).below b1 (by simp)
   have fr:=bx.frozen
   obtain⟨k0,k1,k2,k3,k4,k5,k6⟩:=Box.seven bx
   have bb:Below w.heap.size w w1:=((Below.refl _ w).alloc (Nat.le_refl _) _).trans (b1.mono (by simp))
   go_wp2_with fail
   obtain⟨j0,j1,j2,j3,j4,j5,j6⟩:=Box.seven (Box.Dt bx (.int .i64 4) (.int .i32 0) (.int .u8 0) (.int .u8 0) (.int .u8 f) (.slice A1 n c1) (.string ⟨#[]⟩))
   have ow:=FE h1 (AP h1 bx (by decide)) (.int .i64 4) (.int .i32 0) (.int .u8 0) (.int .u8 0) (.int .u8 f) (.slice A1 n c1) (.string ⟨#[]⟩)
   have bl:=Al bb (Nat.le_refl _) (.int .i64 4) (.int .i32 0) (.int .u8 0) (.int .u8 0) (.int .u8 f) (.slice A1 n c1) (.string ⟨#[]⟩)
   generalize (((((((w1.setCell ⟨w.heap.size,0,none⟩ (.int .i64 4)).setCell ⟨w.heap.size,1,none⟩ (.int .i32 0)).setCell ⟨w.heap.size,2,none⟩ (.int .u8 0)).setCell ⟨w.heap.size,3,none⟩ (.int .u8 0)).setCell ⟨w.heap.size,4,none⟩ (.int .u8 f)).setCell ⟨w.heap.size,5,none⟩ (.slice A1 n c1)).setCell ⟨w.heap.size,6,none⟩ (.string ⟨#[]⟩))=W at*
   refine bodyPost_ret (v:=.agg #[.int .i64 4,.int .i32 0,.int .u8 0,.int .u8 0,.int .u8 f,.slice A1 n c1,.string ⟨#[]⟩]) (by simp [results,Tryd.results7,go_sem,j0,j1,j2,j3,j4,j5,j6]) rfl ⟨_,rfl,?_,bl⟩
   rw [HE.out,HL.out]
   exact own_base' ow (by simp)
def Bp (l:List Int) (i:Int):Int:=if i<0\/(l.length:Int)<=i then-1 else l.getD i.toNat 0
theorem LZ (k r p q f:Int) (A:Option Addr) (n c:Nat) (l:List Int) (s:ByteArray) (i:Int) (w:World) (hA:Seen w w.heap.size A n (Aj l)):
  Calls Tryd.prog 42 #[.agg #[.int .i64 k,.int .i32 r,.int .u8 p,.int .u8 q,.int .u8 f,.slice A n c,.string s],.int .i64 i] w fun e w'=>e=.returned (.int .i64 (Bp l i))/\Below w.heap.size w w':=by
 have hl:l.length=n:=by simpa [Aj] using hA.1
 have HB:=hide (fun o:Obj=>(Below.refl w.heap.size w).alloc (Nat.le_refl _) o)
 by_cases h0:i<0
 ·have HE:=hide (show Bp l i= -1 by unfold Bp;rw [if_pos (.inl h0)])
  clear hA hl
  go_enter Tryd.func42,Tryd.ntmps42
  go_wp2_with fail
  go_ret
  exact⟨Bg HE.out.symm,HB.out _⟩
 by_cases h1:(n:Int)<=i
 ·have HE:=hide (show Bp l i= -1 by unfold Bp;rw [if_pos (.inr (by rw [hl];exact h1))])
  clear hA hl
  go_enter Tryd.func42,Tryd.ntmps42
  go_wp2_with fail
  go_ret
  exact⟨Bg HE.out.symm,HB.out _⟩
 obtain⟨m,rfl⟩:=Int.eq_ofNat_of_zero_le (show 0<=i by omega)
 have hm:m<n:=by omega
 obtain⟨ad,u,rfl,_,hu,hc⟩:=hA.at_ hm
 rw [Aj,List.getElem?_map] at hu
 obtain⟨x,hx,rfl⟩:=Option.map_eq_some_iff.1 hu
 have HE:=hide (show Bp l (m:Int)=x by unfold Bp;rw [if_neg (by omega),List.getD_eq_getElem?_getD,Int.toNat_natCast,hx];rfl)
 have hac:=fun o=>(World.cell?_alloc_lt w o (ad.add m) (World.block_lt_of_cell? w (ad.add m) hc)).trans hc
 have hbt:((m:Int)).toNat=m:=by simp
 clear hA hu hx hl hc
 go_enter Tryd.func42,Tryd.ntmps42
 go_wp2_with fail
 go_ret
 exact⟨Bg HE.out.symm,HB.out _⟩
def Ko (l:List Int) (i none lo hi:Int):Int:=
 let q:=Bp l i
 let m:=if q= -1\/(q=0/\0<lo) then none else q
 min (max m lo) hi
theorem OP (k r p q f:Int) (A:Option Addr) (n c:Nat) (l:List Int) (s:ByteArray) (i none lo hi:Int) (w:World) (hA:Seen w w.heap.size A n (Aj l)):
  Calls Tryd.prog 26 #[.agg #[.int .i64 k,.int .i32 r,.int .u8 p,.int .u8 q,.int .u8 f,.slice A n c,.string s],.int .i64 i,.int .i64 none,.int .i64 lo,.int .i64 hi] w fun e w'=>e=.returned (.int .i64 (Ko l i none lo hi))/\Below w.heap.size w w':=by
 have HB:=hide (fun o:Obj=>(Below.refl w.heap.size w).alloc (Nat.le_refl _) o)
 have PA:=hide (fun (o:Obj)=>LZ k r p q f A n c l s i (w.alloc o) ((hA.alloc (Nat.le_refl _) _).more (by simp)))
 generalize hx:Bp l i=x at PA
 have HA:=hide (show Ko l i none lo hi=min (max (if x= -1\/(x=0/\0<lo) then none else x) lo) hi by rw [<- hx];rfl)
 generalize Ko l i none lo hi=R at*
 clear hA hx
 by_cases h1:x= -1
 ·have d1:(x== -1)=true:=by simpa using h1
  have HM:=hide (show R=min (max none lo) hi by rw [HA.out,if_pos (.inl h1)])
  clear h1
  rcases Int.lt_or_le none lo with a1 | a1
  ·rcases Int.lt_or_le hi lo with a2 | a2
   ·have HE:=hide (show R=hi by rw [HM.out];simp only [Int.max_def,Int.min_def];(repeat' split)<;>omega)
    go_enter Tryd.func26,Tryd.ntmps26
    go_wp2_with fail
    refine(PA.out _).mono ?_
    rintro e w1 ⟨rfl,b1⟩
    have b2:=(HB.out _).trans (b1.mono (by simp))
    clear b1
    go_wp2_with fail
    go_ret
    exact⟨Bg HE.out.symm,b2⟩
   ·have HE:=hide (show R=lo by rw [HM.out];simp only [Int.max_def,Int.min_def];(repeat' split)<;>omega)
    go_enter Tryd.func26,Tryd.ntmps26
    go_wp2_with fail
    refine(PA.out _).mono ?_
    rintro e w1 ⟨rfl,b1⟩
    have b2:=(HB.out _).trans (b1.mono (by simp))
    clear b1
    go_wp2_with fail
    go_ret
    exact⟨Bg HE.out.symm,b2⟩
  ·rcases Int.lt_or_le hi none with a2 | a2
   ·have HE:=hide (show R=hi by rw [HM.out];simp only [Int.max_def,Int.min_def];(repeat' split)<;>omega)
    go_enter Tryd.func26,Tryd.ntmps26
    go_wp2_with fail
    refine(PA.out _).mono ?_
    rintro e w1 ⟨rfl,b1⟩
    have b2:=(HB.out _).trans (b1.mono (by simp))
    clear b1
    go_wp2_with fail
    go_ret
    exact⟨Bg HE.out.symm,b2⟩
   ·have HE:=hide (show R=none by rw [HM.out];simp only [Int.max_def,Int.min_def];(repeat' split)<;>omega)
    go_enter Tryd.func26,Tryd.ntmps26
    go_wp2_with fail
    refine(PA.out _).mono ?_
    rintro e w1 ⟨rfl,b1⟩
    have b2:=(HB.out _).trans (b1.mono (by simp))
    clear b1
    go_wp2_with fail
    go_ret
    exact⟨Bg HE.out.symm,b2⟩
 have d1:(x== -1)=false:=by simpa using h1
 by_cases h2:x=0
 ·have d2:(x==0)=true:=by simpa using h2
  by_cases h3:0<lo
  ·have HM:=hide (show R=min (max none lo) hi by rw [HA.out,if_pos (.inr ⟨h2,h3⟩)])
   clear h1 h2
   rcases Int.lt_or_le none lo with a1 | a1
   ·rcases Int.lt_or_le hi lo with a2 | a2
    ·have HE:=hide (show R=hi by rw [HM.out];simp only [Int.max_def,Int.min_def];(repeat' split)<;>omega)
     go_enter Tryd.func26,Tryd.ntmps26
     go_wp2_with fail
     refine(PA.out _).mono ?_
     rintro e w1 ⟨rfl,b1⟩
     have b2:=(HB.out _).trans (b1.mono (by simp))
     clear b1
     go_wp2_with fail
     go_ret
     exact⟨Bg HE.out.symm,b2⟩
    ·have HE:=hide (show R=lo by rw [HM.out];simp only [Int.max_def,Int.min_def];(repeat' split)<;>omega)
     go_enter Tryd.func26,Tryd.ntmps26
     go_wp2_with fail
     refine(PA.out _).mono ?_
     rintro e w1 ⟨rfl,b1⟩
     have b2:=(HB.out _).trans (b1.mono (by simp))
     clear b1
     go_wp2_with fail
     go_ret
     exact⟨Bg HE.out.symm,b2⟩
   ·rcases Int.lt_or_le hi none with a2 | a2
    ·have HE:=hide (show R=hi by rw [HM.out];simp only [Int.max_def,Int.min_def];(repeat' split)<;>omega)
     go_enter Tryd.func26,Tryd.ntmps26
     go_wp2_with fail
     refine(PA.out _).mono ?_
     rintro e w1 ⟨rfl,b1⟩
     have b2:=(HB.out _).trans (b1.mono (by simp))
     clear b1
     go_wp2_with fail
     go_ret
     exact⟨Bg HE.out.symm,b2⟩
    ·have HE:=hide (show R=none by rw [HM.out];simp only [Int.max_def,Int.min_def];(repeat' split)<;>omega)
     go_enter Tryd.func26,Tryd.ntmps26
     go_wp2_with fail
     refine(PA.out _).mono ?_
     rintro e w1 ⟨rfl,b1⟩
     have b2:=(HB.out _).trans (b1.mono (by simp))
     clear b1
     go_wp2_with fail
     go_ret
     exact⟨Bg HE.out.symm,b2⟩
  ·have HM:=hide (show R=min (max x lo) hi by rw [HA.out,if_neg (by omega)])
   clear h1 h2
   rcases Int.lt_or_le x lo with a1 | a1
   ·rcases Int.lt_or_le hi lo with a2 | a2
    ·have HE:=hide (show R=hi by rw [HM.out];simp only [Int.max_def,Int.min_def];(repeat' split)<;>omega)
     go_enter Tryd.func26,Tryd.ntmps26
     go_wp2_with fail
     refine(PA.out _).mono ?_
     rintro e w1 ⟨rfl,b1⟩
     have b2:=(HB.out _).trans (b1.mono (by simp))
     clear b1
     go_wp2_with fail
     go_ret
     exact⟨Bg HE.out.symm,b2⟩
    ·have HE:=hide (show R=lo by rw [HM.out];simp only [Int.max_def,Int.min_def];(repeat' split)<;>omega)
     go_enter Tryd.func26,Tryd.ntmps26
     go_wp2_with fail
     refine(PA.out _).mono ?_
     rintro e w1 ⟨rfl,b1⟩
     have b2:=(HB.out _).trans (b1.mono (by simp))
     clear b1
     go_wp2_with fail
     go_ret
     exact⟨Bg HE.out.symm,b2⟩
   ·rcases Int.lt_or_le hi x with a2 | a2
    ·have HE:=hide (show R=hi by rw [HM.out];simp only [Int.max_def,Int.min_def];(repeat' split)<;>omega)
     go_enter Tryd.func26,Tryd.ntmps26
     go_wp2_with fail
     refine(PA.out _).mono ?_
     rintro e w1 ⟨rfl,b1⟩
     have b2:=(HB.out _).trans (b1.mono (by simp))
     clear b1
     go_wp2_with fail
     go_ret
     exact⟨Bg HE.out.symm,b2⟩
    ·have HE:=hide (show R=x by rw [HM.out];simp only [Int.max_def,Int.min_def];(repeat' split)<;>omega)
     go_enter Tryd.func26,Tryd.ntmps26
     go_wp2_with fail
     refine(PA.out _).mono ?_
     rintro e w1 ⟨rfl,b1⟩
     have b2:=(HB.out _).trans (b1.mono (by simp))
     clear b1
     go_wp2_with fail
     go_ret
     exact⟨Bg HE.out.symm,b2⟩
 ·have d2:(x==0)=false:=by simpa using h2
  have HM:=hide (show R=min (max x lo) hi by rw [HA.out,if_neg (by omega)])
  clear h1 h2
  rcases Int.lt_or_le x lo with a1 | a1
  ·rcases Int.lt_or_le hi lo with a2 | a2
   ·have HE:=hide (show R=hi by rw [HM.out];simp only [Int.max_def,Int.min_def];(repeat' split)<;>omega)
    go_enter Tryd.func26,Tryd.ntmps26
    go_wp2_with fail
    refine(PA.out _).mono ?_
    rintro e w1 ⟨rfl,b1⟩
    have b2:=(HB.out _).trans (b1.mono (by simp))
    clear b1
    go_wp2_with fail
    go_ret
    exact⟨Bg HE.out.symm,b2⟩
   ·have HE:=hide (show R=lo by rw [HM.out];simp only [Int.max_def,Int.min_def];(repeat' split)<;>omega)
    go_enter Tryd.func26,Tryd.ntmps26
    go_wp2_with fail
    refine(PA.out _).mono ?_
    rintro e w1 ⟨rfl,b1⟩
    have b2:=(HB.out _).trans (b1.mono (by simp))
    clear b1
    go_wp2_with fail
    go_ret
    exact⟨Bg HE.out.symm,b2⟩
  ·rcases Int.lt_or_le hi x with a2 | a2
   ·have HE:=hide (show R=hi by rw [HM.out];simp only [Int.max_def,Int.min_def];(repeat' split)<;>omega)
    go_enter Tryd.func26,Tryd.ntmps26
    go_wp2_with fail
    refine(PA.out _).mono ?_
    rintro e w1 ⟨rfl,b1⟩
    have b2:=(HB.out _).trans (b1.mono (by simp))
    clear b1
    go_wp2_with fail
    go_ret
    exact⟨Bg HE.out.symm,b2⟩
   ·have HE:=hide (show R=x by rw [HM.out];simp only [Int.max_def,Int.min_def];(repeat' split)<;>omega)
    go_enter Tryd.func26,Tryd.ntmps26
    go_wp2_with fail
    refine(PA.out _).mono ?_
    rintro e w1 ⟨rfl,b1⟩
    have b2:=(HB.out _).trans (b1.mono (by simp))
    clear b1
    go_wp2_with fail
    go_ret
    exact⟨Bg HE.out.symm,b2⟩
end Go.Proofs.YtoaabebgmdbjeaaDoor
namespace Go.Proofs.YtoaabebgmdbjeaaDoor
open Go Go.RowKit
section
variable {P:Program} {ops:Array Oper} {rest:List Oper} {o o2 o3:Oper} {a:Act} {w:World} {Q:Exit->Act->World->Prop} {x:Value} {s T:SN.Sc}
end
section
variable {w0 w w1 w8:World} {s T:SN.Sc} {x:Value} {g gR gE:Nat} {cs csR:Array Value} {t:Tmp}
end
end Go.Proofs.YtoaabebgmdbjeaaDoor
namespace Go.Proofs.YtoaabebgmdbjeaaDoor
open Go Go.RowKit
section
variable {P:Program} {Q:Exit->Act->World->Prop} {ops:Array Oper} {S:List (Option Nat)} {w0 w:World} {olds:Nat->Array Value} {sh:Bn} {vals:Nat->Value} {pr:Nat->Value->World->Prop} {gs:Nat->Nat} {L:Nat->Bool} {a:Act} {i:Nat}
theorem gslot (hJ:GJ ops S w0 olds sh vals pr gs L (fun j=>valOf ops j a) w) (AA: ∀o,ops[i]? =some o-> ∀e∈o.after,Region.binds .any e=true->L e.on=true) (j:Nat) {d:Nat} {v:Value} (hs:Ao ops j=some d) (hd:((ops[i]?).map fun o=>o.after.any fun e=>Region.binds .any e&&e.on==j).getD false=true) (hl:j<ops.size) (hk:BG sh j=0) (hv:vals j=v):a.eval (.tmp d)=v:=
 AB hs (hJ.valOf hl (AL AA j hd) hk hv)
theorem Bh (hJ:GJ ops S w0 olds sh vals pr gs L (fun j=>valOf ops j a) w) (hGS:GS ops S w0 olds sh pr gs) (hcl:Closed ops L) (hL:L i=false) (d:Nat) (u v:Value) (he:a.eval (.tmp d)=u) (o:Oper) (ho:ops[i]? =some o) (hd:o.dst.isSome=true) (hg:o.guard=none) (hk:BG sh i=0) (hv:vals i=v)
  (hr: ∀ρ:Operand->Value,(∀c,ρ (.const c)=c)->ρ (.tmp d)=u->(execOp ρ o).run P w=.ok (.value v) w):Step P ops Q (GJ ops S w0 olds sh vals pr gs) L a w i:=
 Step.val o ho hd (AJ hg) v w (fun ρ hρ=>hr ρ (fun _=>(hρ _).symm) ((hρ _).symm.trans he)) (hJ.val hGS hcl hL hk (Below.refl _ _) _ hv)
theorem gst2 (hJ:GJ ops S w0 olds sh vals pr gs L (fun j=>valOf ops j a) w) (hGS:GS ops S w0 olds sh pr gs) (hcl:Closed ops L) (hL:L i=false) (d d':Nat) (u u' v:Value) (he:a.eval (.tmp d)=u) (he':a.eval (.tmp d')=u') (o:Oper) (ho:ops[i]? =some o) (hd:o.dst.isSome=true) (hg:o.guard=none) (hk:BG sh i=0) (hv:vals i=v)
  (hr: ∀ρ:Operand->Value,(∀c,ρ (.const c)=c)->ρ (.tmp d)=u->ρ (.tmp d')=u'->(execOp ρ o).run P w=.ok (.value v) w):Step P ops Q (GJ ops S w0 olds sh vals pr gs) L a w i:=
 Step.val o ho hd (AJ hg) v w (fun ρ hρ=>hr ρ (fun _=>(hρ _).symm) ((hρ _).symm.trans he) ((hρ _).symm.trans he')) (hJ.val hGS hcl hL hk (Below.refl _ _) _ hv)
end
end Go.Proofs.YtoaabebgmdbjeaaDoor
namespace Go.Proofs.YtoaabebgmdbjeaaDoor
open Go.RowKit
theorem Jd {c:Int} (hc:0<=c):IntKind.u64.wrap (2 ^ min c.toNat 64)=((TB.Gt c:Nat):Int):=by
 unfold TB.Gt
 by_cases h:TB.col c
 ·rw [if_pos h]
  unfold TB.col at h
  have hp:=TB.MH (c:=c.toNat) (by omega)
  have e:(2:Int) ^ min c.toNat 64=((2 ^ c.toNat:Nat):Int):=by
   rw [show min c.toNat 64=c.toNat by omega]
   simp
  rw [e,IntKind.wrap_u64]
  generalize 2 ^ c.toNat=q at hp
  omega
 ·rw [if_neg h]
  unfold TB.col at h
  rw [show min c.toNat 64=64 by omega]
  decide
theorem OQ (c:Int) (w:World) (h0: -9223372036854775808<=c) (h1:c<=9223372036854775807):Calls Tryd.prog 50 #[.int .i64 c] w fun e w'=>e=.returned (.int .u64 (TB.Gt c:Nat))/\w=w':=by
 by_cases hc:0<=c
 ·go_enter Tryd.func50,Tryd.ntmps50
  go_wp2
  go_ret
  exact⟨Bg (Jd hc),rfl⟩
 ·go_enter Tryd.func50,Tryd.ntmps50
  go_wp2
  go_ret
  refine⟨Bg ?_,rfl⟩
  rw [Jd (by rw [IntKind.wrap_u64];omega)]
  unfold TB.Gt
  rw [if_neg (by unfold TB.col;rw [IntKind.wrap_u64];omega),if_neg (by unfold TB.col;omega)]
theorem PO (c:Int) (n:Nat) (hn:TB.Gt c=n) (w:World) (h0: -9223372036854775808<=c) (h1:c<=9223372036854775807):Calls Tryd.prog 50 #[.int .i64 c] w fun e w'=>e=.returned (.int .u64 n)/\w=w':=by
 subst hn
 exact OQ c w h0 h1
theorem La (c:Int) (w:World) (h0: -9223372036854775808<=c) (h1:c<=9223372036854775807):Calls Tryd.prog 38 #[.int .i64 c] w fun e w'=>e=.returned (.int .u64 (TB.Bt c:Nat))/\w=w':=by
 obtain⟨d,hd,hd0,hd1⟩: ∃d:Int,max c 0=d/\0<=d/\d<=9223372036854775807:=⟨_,rfl,by omega,by omega⟩
 have E:TB.Bt c=TB.Bt d:=by
  unfold TB.Bt
  rw [show d.toNat=c.toNat by omega]
 have W:IntKind.u64.wrap ((TB.Gt d:Nat)-1:Int)=((TB.Bt d:Nat):Int):=by
  have h1:=TB.Ho d
  unfold TB.Ok at h1
  rw [IntKind.wrap_u64]
  rcases TB.K4 hd0 with h | ⟨h,h'⟩
  ·omega
  ·rw [h,h']
   decide
 rw [E]
 have HB:=hide fun w'=>PO d _ rfl w' (by omega) hd1
 have HW:=hide W
 generalize TB.Gt d=x at HB HW
 generalize TB.Bt d=y at HW
 clear E W
 by_cases hc:0<=c
 ·obtain rfl:d=c:=by omega
  clear hd
  go_enter Tryd.func38,Tryd.ntmps38
  go_wp2_with fail
  refine(HB.out _).mono ?_
  rintro e w1 ⟨rfl,rfl⟩
  go_wp2_with fail
  go_ret
  exact⟨Bg HW.out,rfl⟩
 ·obtain rfl:d=0:=by omega
  clear hd
  go_enter Tryd.func38,Tryd.ntmps38
  go_wp2_with fail
  refine(HB.out _).mono ?_
  rintro e w1 ⟨rfl,rfl⟩
  go_wp2_with fail
  go_ret
  exact⟨Bg HW.out,rfl⟩
theorem Ml (c:Int) (n:Nat) (hn:TB.Bt c=n) (w:World) (h0: -9223372036854775808<=c) (h1:c<=9223372036854775807):Calls Tryd.prog 38 #[.int .i64 c] w fun e w'=>e=.returned (.int .u64 n)/\w=w':=by
 subst hn
 exact La c w h0 h1
theorem u64_and {a b:Nat} (ha:TB.Ok a) (hb:TB.Ok b):bits .and .u64 (a:Int) (b:Int)=((a&&& b:Nat):Int):=u64_and_nat a b ha hb
theorem Mq (n:Int) (w:World) (h0:0<=n) (h1:n<=9223372036854775807):Calls Tryd.prog 23 #[.int .i64 n] w fun e w'=>e=.returned (.int .u64 (TB.news n.toNat:Nat))/\w=w':=by
 have HB:=hide fun w'=>Ml n _ rfl w' (by omega) h1
 have E1:=u64_and (show TB.Ok 72340172838076672 by unfold TB.Ok;omega) (TB.Ho n)
 rw [TB.MK h0] at E1
 have E2:=hide (show bits .and .u64 72340172838076672 ((TB.Bt n:Nat):Int)=((TB.news n.toNat:Nat):Int) from E1)
 generalize TB.Bt n=x at HB E2
 generalize TB.news n.toNat=y at E2
 clear E1
 go_enter Tryd.func23,Tryd.ntmps23
 go_wp2_with fail
 refine(HB.out _).mono ?_
 rintro e w1 ⟨rfl,rfl⟩
 go_wp2_with fail
 go_ret
 exact⟨Bg E2.out,rfl⟩
theorem OT (n:Int) (t:Nat) (ht:TB.news n.toNat=t) (w:World) (h0:0<=n) (h1:n<=9223372036854775807):Calls Tryd.prog 23 #[.int .i64 n] w fun e w'=>e=.returned (.int .u64 t)/\w=w':=by
 subst ht
 exact Mq n w h0 h1
def Lb (w:World):Prop:=TabAt 3 Lib.deBruijn64tab w
theorem Lb.keep {w w':World} (h:Lb w) (hb:Below w.heap.size w w'):Lb w':=fun j hj=>by
 have hc:=h j hj
 rw [<- hc]
 exact World.cell?_of_block (hb.block _ (World.block_lt_of_cell? w _ hc))
theorem Lb.drewN {w:World} (h:Lb w) (k:Nat):Lb (w.drewN k):=h
end Go.Proofs.YtoaabebgmdbjeaaDoor
namespace Go.Proofs.YtoaabebgmdbjeaaDoor
open Go.RowKit
end Go.Proofs.YtoaabebgmdbjeaaDoor
