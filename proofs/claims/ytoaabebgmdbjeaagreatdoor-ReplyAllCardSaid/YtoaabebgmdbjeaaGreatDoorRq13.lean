/- A part of the proof: SeqMake, ScrBrief, ScreenFit, CursorRef. -/
import Derived.Test.YtoaabebgmdbjeaaGreatDoorRq11
import Derived.Test.YtoaabebgmdbjeaaGreatDoorRq09
set_option maxRecDepth 100000
set_option maxHeartbeats 16000000
set_option linter.unusedVariables false
namespace Go.Proofs.YtoaabebgmdbjeaaGreatDoor
open Go.RowKit
def Made (w:World) (p f:Int) (l:List Int) (e:Ending) (w':World):Prop:=
 ∃v',e=.returned (.agg #[.int .i64 4,.int .i32 0,.int .u8 p,.int .u8 0,.int .u8 f,v',.string ⟨#[]⟩])/\w'.ownsRow w.heap.size 3 1 v' l.length (Br l)/\Below w.heap.size w w'
def DK (l:List Int):List Int:=if l= [-1] then [] else l
section
variable {w w1:World} {g B:Nat} {t:TypeId} {a b c d e f h:Value}
theorem Box.Gv (bx:Box w1 g t #[a,b,c,d,e,f,h]) (p0 p1 p2 p3 p4 p5 p6:Value):Box (((((((w1.setCell ⟨g,0,none⟩ p0).setCell ⟨g,1,none⟩ p1).setCell ⟨g,2,none⟩ p2).setCell ⟨g,3,none⟩ p3).setCell ⟨g,4,none⟩ p4).setCell ⟨g,5,none⟩ p5).setCell ⟨g,6,none⟩ p6) g t #[p0,p1,p2,p3,p4,p5,p6] :=by
 have:=((((((bx.set 0 p0).set 1 p1).set 2 p2).set 3 p3).set 4 p4).set 5 p5).set 6 p6
 simpa using this
theorem Bt (hb:Below B w w1) (hg:B<=g) (p0 p1 p2 p3 p4 p5 p6:Value):Below B w (((((((w1.setCell ⟨g,0,none⟩ p0).setCell ⟨g,1,none⟩ p1).setCell ⟨g,2,none⟩ p2).setCell ⟨g,3,none⟩ p3).setCell ⟨g,4,none⟩ p4).setCell ⟨g,5,none⟩ p5).setCell ⟨g,6,none⟩ p6):=
 ((((((hb.setCell hg _).setCell hg _).setCell hg _).setCell hg _).setCell hg _).setCell hg _).setCell hg _
theorem KL {base size n:Nat} {et:TypeId} {v:Value} {xs:List Value} (ho:w1.ownsRow base et size v n xs) (hg:v.ownBlock≠some g) (p0 p1 p2 p3 p4 p5 p6:Value):(((((((w1.setCell ⟨g,0,none⟩ p0).setCell ⟨g,1,none⟩ p1).setCell ⟨g,2,none⟩ p2).setCell ⟨g,3,none⟩ p3).setCell ⟨g,4,none⟩ p4).setCell ⟨g,5,none⟩ p5).setCell ⟨g,6,none⟩ p6).ownsRow base et size v n xs:=
 Dc (Dc (Dc (Dc (Dc (Dc (Dc ho hg _) hg _) hg _) hg _) hg _) hg _) hg _
end
theorem dQ (f:Int) (A:Option Addr) (n c:Nat) (l:List Int) (w:World) (hA:Seen w w.heap.size A n (Br l)) (hn:n<=1099511627776):
  Calls Tryz.prog 30 #[.int .u8 f,.slice A n c] w (Made w 0 f (DK l)):=by
 have hl:l.length=n:=by simpa [Br] using hA.1
 have OW:=hide (fun (o:Obj)=>VF A n c l (w.alloc o) ((hA.alloc (Nat.le_refl _) _).more (by simp)) hn)
 have ON:=hide (fun (o:Obj)=>VF none 0 0 [] (w.alloc o) (Seen.IV _ _ _) (by omega))
 have HL:=hide hl
 by_cases h1:n=1
 ·obtain⟨ad,u,rfl,_,hu,hc⟩:=hA.at_ (k:=0) (by omega)
  rw [Br,List.getElem?_map] at hu
  obtain⟨x,hx,rfl⟩:=Option.map_eq_some_iff.1 hu
  have hll:l= [x] :=by
   rcases l with _ | ⟨y,_ | ⟨z,l⟩⟩<;>simp at hl hx<;>try omega
   subst hx
   rfl
  rw [show ad.add 0=ad from by simp [Addr.add]] at hc
  have hac:=fun o=>(World.cell?_alloc_lt w o ad (World.block_lt_of_cell? w ad hc)).trans hc
  have hd0:((n:Int)==1)=true:=by simp [h1]
  subst h1
  by_cases hx1:x= -1
  ·have HE:=hide (show DK l= [] by unfold DK;rw [hll,hx1];rfl)
   have hd:(x== -1)=true:=by simpa using hx1
   clear hA hl hu hx hll hx1
   go_enter Tryz.func30,Tryz.ntmps30
   go_wp2_with fail
   refine(ON.out _).mono ?_
   rintro e w1 ⟨v1,rfl,h1,b1⟩
   obtain⟨A1,c1,rfl,_⟩:=Da h1
   have bx:=(Box.new w 34 #[.int .i64 0,.int .i32 0,.int .u8 0,.int .u8 0,.int .u8 0,.slice none 0 0,.string ⟨#[]⟩]).below b1 (by simp)
   have fr:=bx.frozen
   obtain⟨k0,k1,k2,k3,k4,k5,k6⟩:=Box.seven bx
   have bb:Below w.heap.size w w1:=((Below.refl _ w).alloc (Nat.le_refl _) _).trans (b1.mono (by simp))
   go_wp2_with fail
   obtain⟨j0,j1,j2,j3,j4,j5,j6⟩:=Box.seven (Box.Gv bx (.int .i64 4) (.int .i32 0) (.int .u8 0) (.int .u8 0) (.int .u8 f) (.slice A1 0 c1) (.string ⟨#[]⟩))
   have ow:=KL h1 (Ac h1 bx (by decide)) (.int .i64 4) (.int .i32 0) (.int .u8 0) (.int .u8 0) (.int .u8 f) (.slice A1 0 c1) (.string ⟨#[]⟩)
   have bl:=Bt bb (Nat.le_refl _) (.int .i64 4) (.int .i32 0) (.int .u8 0) (.int .u8 0) (.int .u8 f) (.slice A1 0 c1) (.string ⟨#[]⟩)
   generalize (((((((w1.setCell ⟨w.heap.size,0,none⟩ (.int .i64 4)).setCell ⟨w.heap.size,1,none⟩ (.int .i32 0)).setCell ⟨w.heap.size,2,none⟩ (.int .u8 0)).setCell ⟨w.heap.size,3,none⟩ (.int .u8 0)).setCell ⟨w.heap.size,4,none⟩ (.int .u8 f)).setCell ⟨w.heap.size,5,none⟩ (.slice A1 0 c1)).setCell ⟨w.heap.size,6,none⟩ (.string ⟨#[]⟩))=W at*
   refine bodyPost_ret (v:=.agg #[.int .i64 4,.int .i32 0,.int .u8 0,.int .u8 0,.int .u8 f,.slice A1 0 c1,.string ⟨#[]⟩]) (by simp [results,Tryz.results30,go_sem,j0,j1,j2,j3,j4,j5,j6]) rfl ⟨_,rfl,?_,bl⟩
   rw [HE.out]
   exact own_base' ow (by simp)
  ·have HE:=hide (show DK l=l by unfold DK;rw [if_neg];rw [hll];simpa using hx1)
   have hd:(x== -1)=false:=by simpa using hx1
   clear hA hu hx hll hx1 hl
   go_enter Tryz.func30,Tryz.ntmps30
   go_wp2_with fail
   refine(OW.out _).mono ?_
   rintro e w1 ⟨v1,rfl,h1,b1⟩
   obtain⟨A1,c1,rfl,_⟩:=Da h1
   have bx:=(Box.new w 34 #[.int .i64 0,.int .i32 0,.int .u8 0,.int .u8 0,.int .u8 0,.slice none 0 0,.string ⟨#[]⟩]).below b1 (by simp)
   have fr:=bx.frozen
   obtain⟨k0,k1,k2,k3,k4,k5,k6⟩:=Box.seven bx
   have bb:Below w.heap.size w w1:=((Below.refl _ w).alloc (Nat.le_refl _) _).trans (b1.mono (by simp))
   go_wp2_with fail
   obtain⟨j0,j1,j2,j3,j4,j5,j6⟩:=Box.seven (Box.Gv bx (.int .i64 4) (.int .i32 0) (.int .u8 0) (.int .u8 0) (.int .u8 f) (.slice A1 1 c1) (.string ⟨#[]⟩))
   have ow:=KL h1 (Ac h1 bx (by decide)) (.int .i64 4) (.int .i32 0) (.int .u8 0) (.int .u8 0) (.int .u8 f) (.slice A1 1 c1) (.string ⟨#[]⟩)
   have bl:=Bt bb (Nat.le_refl _) (.int .i64 4) (.int .i32 0) (.int .u8 0) (.int .u8 0) (.int .u8 f) (.slice A1 1 c1) (.string ⟨#[]⟩)
   generalize (((((((w1.setCell ⟨w.heap.size,0,none⟩ (.int .i64 4)).setCell ⟨w.heap.size,1,none⟩ (.int .i32 0)).setCell ⟨w.heap.size,2,none⟩ (.int .u8 0)).setCell ⟨w.heap.size,3,none⟩ (.int .u8 0)).setCell ⟨w.heap.size,4,none⟩ (.int .u8 f)).setCell ⟨w.heap.size,5,none⟩ (.slice A1 1 c1)).setCell ⟨w.heap.size,6,none⟩ (.string ⟨#[]⟩))=W at*
   refine bodyPost_ret (v:=.agg #[.int .i64 4,.int .i32 0,.int .u8 0,.int .u8 0,.int .u8 f,.slice A1 1 c1,.string ⟨#[]⟩]) (by simp [results,Tryz.results30,go_sem,j0,j1,j2,j3,j4,j5,j6]) rfl ⟨_,rfl,?_,bl⟩
   rw [HE.out,HL.out]
   exact own_base' ow (by simp)
 ·have HE:=hide (show DK l=l by unfold DK;rw [if_neg (fun e=>h1 (by rw [<- hl,e];rfl))])
  have hd0:((n:Int)==1)=false:=by simp;omega
  clear hA hl h1
  ·go_enter Tryz.func30,Tryz.ntmps30
   go_wp2_with fail
   refine(OW.out _).mono ?_
   rintro e w1 ⟨v1,rfl,h1,b1⟩
   obtain⟨A1,c1,rfl,_⟩:=Da h1
   have bx:=(Box.new w 34 #[.int .i64 0,.int .i32 0,.int .u8 0,.int .u8 0,.int .u8 0,.slice none 0 0,.string ⟨#[]⟩]).below b1 (by simp)
   have fr:=bx.frozen
   obtain⟨k0,k1,k2,k3,k4,k5,k6⟩:=Box.seven bx
   have bb:Below w.heap.size w w1:=((Below.refl _ w).alloc (Nat.le_refl _) _).trans (b1.mono (by simp))
   go_wp2_with fail
   obtain⟨j0,j1,j2,j3,j4,j5,j6⟩:=Box.seven (Box.Gv bx (.int .i64 4) (.int .i32 0) (.int .u8 0) (.int .u8 0) (.int .u8 f) (.slice A1 n c1) (.string ⟨#[]⟩))
   have ow:=KL h1 (Ac h1 bx (by decide)) (.int .i64 4) (.int .i32 0) (.int .u8 0) (.int .u8 0) (.int .u8 f) (.slice A1 n c1) (.string ⟨#[]⟩)
   have bl:=Bt bb (Nat.le_refl _) (.int .i64 4) (.int .i32 0) (.int .u8 0) (.int .u8 0) (.int .u8 f) (.slice A1 n c1) (.string ⟨#[]⟩)
   generalize (((((((w1.setCell ⟨w.heap.size,0,none⟩ (.int .i64 4)).setCell ⟨w.heap.size,1,none⟩ (.int .i32 0)).setCell ⟨w.heap.size,2,none⟩ (.int .u8 0)).setCell ⟨w.heap.size,3,none⟩ (.int .u8 0)).setCell ⟨w.heap.size,4,none⟩ (.int .u8 f)).setCell ⟨w.heap.size,5,none⟩ (.slice A1 n c1)).setCell ⟨w.heap.size,6,none⟩ (.string ⟨#[]⟩))=W at*
   refine bodyPost_ret (v:=.agg #[.int .i64 4,.int .i32 0,.int .u8 0,.int .u8 0,.int .u8 f,.slice A1 n c1,.string ⟨#[]⟩]) (by simp [results,Tryz.results30,go_sem,j0,j1,j2,j3,j4,j5,j6]) rfl ⟨_,rfl,?_,bl⟩
   rw [HE.out,HL.out]
   exact own_base' ow (by simp)
def Bz (l:List Int) (i:Int):Int:=if i<0\/(l.length:Int)<=i then-1 else l.getD i.toNat 0
theorem Wh (k r p q f:Int) (A:Option Addr) (n c:Nat) (l:List Int) (s:ByteArray) (i:Int) (w:World) (hA:Seen w w.heap.size A n (Br l)):
  Calls Tryz.prog 156 #[.agg #[.int .i64 k,.int .i32 r,.int .u8 p,.int .u8 q,.int .u8 f,.slice A n c,.string s],.int .i64 i] w fun e w'=>e=.returned (.int .i64 (Bz l i))/\Below w.heap.size w w':=by
 have hl:l.length=n:=by simpa [Br] using hA.1
 have HB:=hide (fun o:Obj=>(Below.refl w.heap.size w).alloc (Nat.le_refl _) o)
 by_cases h0:i<0
 ·have HE:=hide (show Bz l i= -1 by unfold Bz;rw [if_pos (.inl h0)])
  clear hA hl
  go_enter Tryz.func156,Tryz.ntmps156
  go_wp2_with fail
  go_ret
  exact⟨Ck HE.out.symm,HB.out _⟩
 by_cases h1:(n:Int)<=i
 ·have HE:=hide (show Bz l i= -1 by unfold Bz;rw [if_pos (.inr (by rw [hl];exact h1))])
  clear hA hl
  go_enter Tryz.func156,Tryz.ntmps156
  go_wp2_with fail
  go_ret
  exact⟨Ck HE.out.symm,HB.out _⟩
 obtain⟨m,rfl⟩:=Int.eq_ofNat_of_zero_le (show 0<=i by omega)
 have hm:m<n:=by omega
 obtain⟨ad,u,rfl,_,hu,hc⟩:=hA.at_ hm
 rw [Br,List.getElem?_map] at hu
 obtain⟨x,hx,rfl⟩:=Option.map_eq_some_iff.1 hu
 have HE:=hide (show Bz l (m:Int)=x by unfold Bz;rw [if_neg (by omega),List.getD_eq_getElem?_getD,Int.toNat_natCast,hx];rfl)
 have hac:=fun o=>(World.cell?_alloc_lt w o (ad.add m) (World.block_lt_of_cell? w (ad.add m) hc)).trans hc
 have hbt:((m:Int)).toNat=m:=by simp
 clear hA hu hx hl hc
 go_enter Tryz.func156,Tryz.ntmps156
 go_wp2_with fail
 go_ret
 exact⟨Ck HE.out.symm,HB.out _⟩
def Mv (l:List Int) (i none lo hi:Int):Int:=
 let q:=Bz l i
 let m:=if q= -1\/(q=0/\0<lo) then none else q
 min (max m lo) hi
theorem Ll (k r p q f:Int) (A:Option Addr) (n c:Nat) (l:List Int) (s:ByteArray) (i none lo hi:Int) (w:World) (hA:Seen w w.heap.size A n (Br l)):
  Calls Tryz.prog 117 #[.agg #[.int .i64 k,.int .i32 r,.int .u8 p,.int .u8 q,.int .u8 f,.slice A n c,.string s],.int .i64 i,.int .i64 none,.int .i64 lo,.int .i64 hi] w fun e w'=>e=.returned (.int .i64 (Mv l i none lo hi))/\Below w.heap.size w w':=by
 have HB:=hide (fun o:Obj=>(Below.refl w.heap.size w).alloc (Nat.le_refl _) o)
 have PA:=hide (fun (o:Obj)=>Wh k r p q f A n c l s i (w.alloc o) ((hA.alloc (Nat.le_refl _) _).more (by simp)))
 generalize hx:Bz l i=x at PA
 have HA:=hide (show Mv l i none lo hi=min (max (if x= -1\/(x=0/\0<lo) then none else x) lo) hi by rw [<- hx];rfl)
 generalize Mv l i none lo hi=R at*
 clear hA hx
 by_cases h1:x= -1
 ·have d1:(x== -1)=true:=by simpa using h1
  have HM:=hide (show R=min (max none lo) hi by rw [HA.out,if_pos (.inl h1)])
  clear h1
  rcases Int.lt_or_le none lo with a1 | a1
  ·rcases Int.lt_or_le hi lo with a2 | a2
   ·have HE:=hide (show R=hi by rw [HM.out];simp only [Int.max_def,Int.min_def];(repeat' split)<;>omega)
    go_enter Tryz.func117,Tryz.ntmps117
    go_wp2_with fail
    refine(PA.out _).mono ?_
    rintro e w1 ⟨rfl,b1⟩
    have b2:=(HB.out _).trans (b1.mono (by simp))
    clear b1
    go_wp2_with fail
    go_ret
    exact⟨Ck HE.out.symm,b2⟩
   ·have HE:=hide (show R=lo by rw [HM.out];simp only [Int.max_def,Int.min_def];(repeat' split)<;>omega)
    go_enter Tryz.func117,Tryz.ntmps117
    go_wp2_with fail
    refine(PA.out _).mono ?_
    rintro e w1 ⟨rfl,b1⟩
    have b2:=(HB.out _).trans (b1.mono (by simp))
    clear b1
    go_wp2_with fail
    go_ret
    exact⟨Ck HE.out.symm,b2⟩
  ·rcases Int.lt_or_le hi none with a2 | a2
   ·have HE:=hide (show R=hi by rw [HM.out];simp only [Int.max_def,Int.min_def];(repeat' split)<;>omega)
    go_enter Tryz.func117,Tryz.ntmps117
    go_wp2_with fail
    refine(PA.out _).mono ?_
    rintro e w1 ⟨rfl,b1⟩
    have b2:=(HB.out _).trans (b1.mono (by simp))
    clear b1
    go_wp2_with fail
    go_ret
    exact⟨Ck HE.out.symm,b2⟩
   ·have HE:=hide (show R=none by rw [HM.out];simp only [Int.max_def,Int.min_def];(repeat' split)<;>omega)
    go_enter Tryz.func117,Tryz.ntmps117
    go_wp2_with fail
    refine(PA.out _).mono ?_
    rintro e w1 ⟨rfl,b1⟩
    have b2:=(HB.out _).trans (b1.mono (by simp))
    clear b1
    go_wp2_with fail
    go_ret
    exact⟨Ck HE.out.symm,b2⟩
 have d1:(x== -1)=false:=by simpa using h1
 by_cases h2:x=0
 ·have d2:(x==0)=true:=by simpa using h2
  by_cases h3:0<lo
  ·have HM:=hide (show R=min (max none lo) hi by rw [HA.out,if_pos (.inr ⟨h2,h3⟩)])
   clear h1 h2
   rcases Int.lt_or_le none lo with a1 | a1
   ·rcases Int.lt_or_le hi lo with a2 | a2
    ·have HE:=hide (show R=hi by rw [HM.out];simp only [Int.max_def,Int.min_def];(repeat' split)<;>omega)
     go_enter Tryz.func117,Tryz.ntmps117
     go_wp2_with fail
     refine(PA.out _).mono ?_
     rintro e w1 ⟨rfl,b1⟩
     have b2:=(HB.out _).trans (b1.mono (by simp))
     clear b1
     go_wp2_with fail
     go_ret
     exact⟨Ck HE.out.symm,b2⟩
    ·have HE:=hide (show R=lo by rw [HM.out];simp only [Int.max_def,Int.min_def];(repeat' split)<;>omega)
     go_enter Tryz.func117,Tryz.ntmps117
     go_wp2_with fail
     refine(PA.out _).mono ?_
     rintro e w1 ⟨rfl,b1⟩
     have b2:=(HB.out _).trans (b1.mono (by simp))
     clear b1
     go_wp2_with fail
     go_ret
     exact⟨Ck HE.out.symm,b2⟩
   ·rcases Int.lt_or_le hi none with a2 | a2
    ·have HE:=hide (show R=hi by rw [HM.out];simp only [Int.max_def,Int.min_def];(repeat' split)<;>omega)
     go_enter Tryz.func117,Tryz.ntmps117
     go_wp2_with fail
     refine(PA.out _).mono ?_
     rintro e w1 ⟨rfl,b1⟩
     have b2:=(HB.out _).trans (b1.mono (by simp))
     clear b1
     go_wp2_with fail
     go_ret
     exact⟨Ck HE.out.symm,b2⟩
    ·have HE:=hide (show R=none by rw [HM.out];simp only [Int.max_def,Int.min_def];(repeat' split)<;>omega)
     go_enter Tryz.func117,Tryz.ntmps117
     go_wp2_with fail
     refine(PA.out _).mono ?_
     rintro e w1 ⟨rfl,b1⟩
     have b2:=(HB.out _).trans (b1.mono (by simp))
     clear b1
     go_wp2_with fail
     go_ret
     exact⟨Ck HE.out.symm,b2⟩
  ·have HM:=hide (show R=min (max x lo) hi by rw [HA.out,if_neg (by omega)])
   clear h1 h2
   rcases Int.lt_or_le x lo with a1 | a1
   ·rcases Int.lt_or_le hi lo with a2 | a2
    ·have HE:=hide (show R=hi by rw [HM.out];simp only [Int.max_def,Int.min_def];(repeat' split)<;>omega)
     go_enter Tryz.func117,Tryz.ntmps117
     go_wp2_with fail
     refine(PA.out _).mono ?_
     rintro e w1 ⟨rfl,b1⟩
     have b2:=(HB.out _).trans (b1.mono (by simp))
     clear b1
     go_wp2_with fail
     go_ret
     exact⟨Ck HE.out.symm,b2⟩
    ·have HE:=hide (show R=lo by rw [HM.out];simp only [Int.max_def,Int.min_def];(repeat' split)<;>omega)
     go_enter Tryz.func117,Tryz.ntmps117
     go_wp2_with fail
     refine(PA.out _).mono ?_
     rintro e w1 ⟨rfl,b1⟩
     have b2:=(HB.out _).trans (b1.mono (by simp))
     clear b1
     go_wp2_with fail
     go_ret
     exact⟨Ck HE.out.symm,b2⟩
   ·rcases Int.lt_or_le hi x with a2 | a2
    ·have HE:=hide (show R=hi by rw [HM.out];simp only [Int.max_def,Int.min_def];(repeat' split)<;>omega)
     go_enter Tryz.func117,Tryz.ntmps117
     go_wp2_with fail
     refine(PA.out _).mono ?_
     rintro e w1 ⟨rfl,b1⟩
     have b2:=(HB.out _).trans (b1.mono (by simp))
     clear b1
     go_wp2_with fail
     go_ret
     exact⟨Ck HE.out.symm,b2⟩
    ·have HE:=hide (show R=x by rw [HM.out];simp only [Int.max_def,Int.min_def];(repeat' split)<;>omega)
     go_enter Tryz.func117,Tryz.ntmps117
     go_wp2_with fail
     refine(PA.out _).mono ?_
     rintro e w1 ⟨rfl,b1⟩
     have b2:=(HB.out _).trans (b1.mono (by simp))
     clear b1
     go_wp2_with fail
     go_ret
     exact⟨Ck HE.out.symm,b2⟩
 ·have d2:(x==0)=false:=by simpa using h2
  have HM:=hide (show R=min (max x lo) hi by rw [HA.out,if_neg (by omega)])
  clear h1 h2
  rcases Int.lt_or_le x lo with a1 | a1
  ·rcases Int.lt_or_le hi lo with a2 | a2
   ·have HE:=hide (show R=hi by rw [HM.out];simp only [Int.max_def,Int.min_def];(repeat' split)<;>omega)
    go_enter Tryz.func117,Tryz.ntmps117
    go_wp2_with fail
    refine(PA.out _).mono ?_
    rintro e w1 ⟨rfl,b1⟩
    have b2:=(HB.out _).trans (b1.mono (by simp))
    clear b1
    go_wp2_with fail
    go_ret
    exact⟨Ck HE.out.symm,b2⟩
   ·have HE:=hide (show R=lo by rw [HM.out];simp only [Int.max_def,Int.min_def];(repeat' split)<;>omega)
    go_enter Tryz.func117,Tryz.ntmps117
    go_wp2_with fail
    refine(PA.out _).mono ?_
    rintro e w1 ⟨rfl,b1⟩
    have b2:=(HB.out _).trans (b1.mono (by simp))
    clear b1
    go_wp2_with fail
    go_ret
    exact⟨Ck HE.out.symm,b2⟩
  ·rcases Int.lt_or_le hi x with a2 | a2
   ·have HE:=hide (show R=hi by rw [HM.out];simp only [Int.max_def,Int.min_def];(repeat' split)<;>omega)
    go_enter Tryz.func117,Tryz.ntmps117
    go_wp2_with fail
    refine(PA.out _).mono ?_
    rintro e w1 ⟨rfl,b1⟩
    have b2:=(HB.out _).trans (b1.mono (by simp))
    clear b1
    go_wp2_with fail
    go_ret
    exact⟨Ck HE.out.symm,b2⟩
   ·have HE:=hide (show R=x by rw [HM.out];simp only [Int.max_def,Int.min_def];(repeat' split)<;>omega)
    go_enter Tryz.func117,Tryz.ntmps117
    go_wp2_with fail
    refine(PA.out _).mono ?_
    rintro e w1 ⟨rfl,b1⟩
    have b2:=(HB.out _).trans (b1.mono (by simp))
    clear b1
    go_wp2_with fail
    go_ret
    exact⟨Ck HE.out.symm,b2⟩
end Go.Proofs.YtoaabebgmdbjeaaGreatDoor
namespace Go.Proofs.YtoaabebgmdbjeaaGreatDoor
open Go Go.RowKit
section
variable {P:Program} {ops:Array Oper} {rest:List Oper} {o o2 o3:Oper} {a:Act} {w:World} {Q:Exit->Act->World->Prop} {x:Value} {s T:SN.Sc}
theorem BX (hG:Hid (IsG w s.g (gv s.g.rows s.g.AB x))) (y:Operand) (h1:o.guard=none) (h2:o.op=.box 43 y) (h3:a.eval y=.agg (scA x s)) (h4:o2.guard=none) (h5:o2.op=.alloc 43)
  (hk: ∀g gR w2 csR,csR.size=29->Hid (Am w2 g x s)->Hid (Below w.heap.size w w2)->Hid (Box w2 gR 43 csR)->Hid (IsG w2 s.g (gv s.g.rows s.g.AB x))->gR≠g->w.heap.size<=g->w.heap.size<=gR->
   wpList Tryz.prog ops Q rest ((a.put o.dst (.pointer (some ⟨g,0,none⟩))).put o2.dst (.pointer (some ⟨gR,0,none⟩))) w2):wpList Tryz.prog ops Q (o::o2::rest) a w:=by
 refine Aq h1 y h2 h3 fun g w1 hB hb1 hg1=>?_
 refine Bb h4 h5 fun gR w2 csR hR hsR hb2 hgR=>?_
 have hl:=hB.lt
 have hz:=hb1.size
 have hW:=hb1.trans (hb2.mono hb1.size)
 exact hk g gR w2 csR hsR (hide (hB.below hb2 hB.lt)) (hide hW) (hide hR) (hide (hG.out.low hW)) (by omega) hg1 (by omega)
theorem Dq {E:TypeId} {cs:Array Value} (hG:Hid (IsG w s.g (gv s.g.rows s.g.AB x))) (y:Operand) (h1:o.guard=none) (h2:o.op=.box 43 y) (h3:a.eval y=.agg (scA x s)) (z:Operand) (h6:o3.guard=none) (h7:o3.op=.box E z) (h8: ∀g,(a.put o.dst (.pointer (some ⟨g,0,none⟩))).eval z=.agg cs)
  (h4:o2.guard=none) (h5:o2.op=.alloc 43)
  (hk: ∀g gE gR w2 csR,csR.size=29->Hid (Am w2 g x s)->Hid (Box w2 gE E cs)->Hid (Below w.heap.size w w2)->Hid (Box w2 gR 43 csR)->Hid (IsG w2 s.g (gv s.g.rows s.g.AB x))->gR≠g->g≠gE->gR≠gE->w.heap.size<=g->w.heap.size<=gR->
   wpList Tryz.prog ops Q rest (((a.put o.dst (.pointer (some ⟨g,0,none⟩))).put o3.dst (.pointer (some ⟨gE,0,none⟩))).put o2.dst (.pointer (some ⟨gR,0,none⟩))) w2):wpList Tryz.prog ops Q (o::o3::o2::rest) a w:=by
 refine Aq h1 y h2 h3 fun g w1 hB hb1 hg1=>?_
 refine wpList_plain h6 fun K hK=>?_
 unfold Oper.wp execOp
 simp only [h7,h8 g]
 have hE:=Box.new w1 E cs
 have hbE:=(Below.refl w1.heap.size w1).alloc (Nat.le_refl _) (.cells cs E)
 have hl:=hB.lt
 have hz:=hb1.size
 have hsz:(w1.alloc (.cells cs E)).heap.size=w1.heap.size+1:=by simp
 have hbW:=hb1.trans (hbE.mono hb1.size)
 have:=hK _ _ (Bb (ops:=ops) (rest:=rest) (Q:=Q) (o:=o2) (a:=(a.put o.dst (.pointer (some ⟨g,0,none⟩))).put o3.dst (.pointer (some ⟨w1.heap.size,0,none⟩))) (w:=w1.alloc (.cells cs E)) h4 h5 fun gR w2 csR hR hsR hb2 hgR=>
  hk g w1.heap.size gR w2 csR hsR (hide ((hB.below hbE hl).below hb2 (by omega))) (hide (hE.below hb2 hE.lt)) (hide (hbW.trans (hb2.mono hbW.size))) (hide hR) (hide (hG.out.low (hbW.trans (hb2.mono hbW.size)))) (by omega) (by omega) (by omega) hg1 (by omega))
 go_simp
 exact this
end
section
variable {w0 w w1 w8:World} {s T:SN.Sc} {x:Value} {g gR gE:Nat} {cs csR:Array Value} {t:Tmp}
theorem Au {K:Ending->World->Prop} (HR:Hid (Box w gR 43 csR)) (HW:Hid (Below w0.heap.size w0 w))
  (hk: ∀A c w',Hid (Box w' gR 43 csR)->Hid (Below w0.heap.size w0 w')->Hid (IsG w' T.g (gv T.g.rows T.g.AB (.slice A (T.g.rows*T.g.AB) c)))->K (.returned (.agg (scA (.slice A (T.g.rows*T.g.AB) c) T))) w'): ∀e w',Az w T e w'->K e w':=by
 rintro e w' ⟨v,rfl,⟨y,rfl,hg⟩,hb⟩
 obtain⟨A,c,rfl⟩:=Af hg
 exact hk A c w' (hide (HR.out.below hb HR.out.lt)) (hide (HW.out.trans (hb.mono HW.out.size))) (hide hg)
theorem BU {fn:Func} {a:Act} (h:fn.results= #[.cell t 43]) (ht:a.tmps.getD t undef=.pointer (some ⟨gR,0,none⟩)) (hd:a.defers= []) (hB:Am w8 gR x T) (hG:Hid (IsG w T.g (gv T.g.rows T.g.AB x))) (HR:Hid (Box w gR 43 csR)) (HW:Hid (Below w0.heap.size w0 w)) (hk:Kept [some gR] w w8) (hgR:w0.heap.size<=gR):bodyPost Tryz.prog fn (Az w0 T) .ret a w8:=
 bodyPost_ret (Cg h ht hB) hd ⟨_,rfl,⟨_,rfl,hG.out.kept HR.out (by decide) hk⟩,HW.out.trans (hk.toBelow HW.out.size (fun k hh=>by simp at hh;omega))⟩
theorem EI (i:Nat) (u:Value) {G:PG.Gr} {y:Value} (HB:Hid (Am w g x s)) (HR:Hid (Box w gR 43 csR)) (HW:Hid (Below w0.heap.size w0 w)) (HG:Hid (IsG w G y)) (hne:gR≠g) (hg:w0.heap.size<=g):
  Hid (Box (w.setCell ⟨g,i,none⟩ u) gR 43 csR)/\Hid (Below w0.heap.size w0 (w.setCell ⟨g,i,none⟩ u))/\Hid (IsG (w.setCell ⟨g,i,none⟩ u) G y):=
 ⟨hide (HR.out.far (p:=⟨g,i,none⟩) hne u),hide (HW.out.setCell (p:=⟨g,i,none⟩) hg u),hide (IsG.puts HG.out HB.out i u)⟩
theorem KM {G:PG.Gr} {y:Value} (hb:Below w.heap.size w w1) (HB:Hid (Am w g x s)) (HR:Hid (Box w gR 43 csR)) (HW:Hid (Below w0.heap.size w0 w)) (HG:Hid (IsG w G y)):
  Hid (Am w1 g x s)/\Hid (Box w1 gR 43 csR)/\Hid (Below w0.heap.size w0 w1)/\Hid (IsG w1 G y):=
 ⟨hide (HB.out.below hb HB.out.lt),hide (HR.out.below hb HR.out.lt),hide (HW.out.trans (hb.mono HW.out.size)),hide (HG.out.low hb)⟩
theorem Box.Bu {t:TypeId} {a b c d e f h:Value} (x:Box w g t #[a,b,c,d,e,f,h]):
  w.cell? ⟨g,0,none⟩=some a/\w.cell? ⟨g,1,none⟩=some b/\w.cell? ⟨g,2,none⟩=some c/\w.cell? ⟨g,3,none⟩=some d/\w.cell? ⟨g,4,none⟩=some e/\w.cell? ⟨g,5,none⟩=some f/\w.cell? ⟨g,6,none⟩=some h:=
 ⟨x.cell 0,x.cell 1,x.cell 2,x.cell 3,x.cell 4,x.cell 5,x.cell 6⟩
end
end Go.Proofs.YtoaabebgmdbjeaaGreatDoor
namespace Go.Proofs.YtoaabebgmdbjeaaGreatDoor
open Go.RowKit
def SN.Sc.fit (s:SN.Sc):SN.Sc:=((s.u6 0).u7 (s.g.rows-1)).u11 (TB.news s.g.AB)
theorem Wi (s:SN.Sc) (A:Option Addr) (n cp:Nat) (h1:1<=s.g.rows) (h2:s.g.rows<=40) (h4:s.g.AB<=60) (w:World):
  Calls Tryz.prog 51 #[.agg (scA (.slice A n cp) s)] w fun e w'=>e=.returned (.agg (scA (.slice A n cp) s.fit))/\Below w.heap.size w w':=by
 have TBS:=hide (fun w'=>dF (s.g.AB:Nat) (TB.news s.g.AB) (by simp) w' (by omega) (by omega))
 obtain⟨b,hb,hb'⟩: ∃b:Nat,(s.g.rows:Int)-1=(b:Int)/\s.g.rows-1=b:=⟨s.g.rows-1,by omega,rfl⟩
 obtain⟨tb,htb⟩: ∃tb,TB.news s.g.AB=tb:=⟨_,rfl⟩
 rw [htb] at TBS
 have HS:=hide (show((s.u6 0).u7 b).u11 tb=s.fit by unfold SN.Sc.fit;rw [hb',htb])
 have EB:=hide hb
 clear hb hb' htb
 go_enter Tryz.func51,Tryz.ntmps51
 go_upto_region 1 with (first | (refine Aq rfl _ rfl rfl ?_;intro g w1 hB hb1 hg1) | (refine Bb rfl rfl ?_;intro gR w2 csR hR hsR hb2 hgR))
 have hB2:=hB.below hb2 hB.lt
 have hW2:=hb1.trans (hb2.mono hb1.size)
 have dR:=hb1.size
 have hne:gR≠g:=by have:=hB.lt;omega
 have Aj:w.heap.size<=gR:=by omega
 have k0:=hB2.c0
 have k6:=hB2.c6
 have k7:=hB2.c7
 have z6:=hB2.fz 6
 have z7:=hB2.fz 7
 clear hB hb1 hb2
 go_upto_region 2 with fail
 simp only [EB.out]
 have HB4:=hide ((hB2.dA 0).Gv b)
 have HR4:=hide ((hR.far (p:=⟨g,6,none⟩) hne (.int .i64 (0:Nat))).far (p:=⟨g,7,none⟩) hne (.int .i64 (b:Nat)))
 have HW4:=hide ((hW2.setCell (p:=⟨g,6,none⟩) hg1 (.int .i64 (0:Nat))).setCell (p:=⟨g,7,none⟩) hg1 (.int .i64 (b:Nat)))
 generalize ((w2.setCell ⟨g,6,none⟩ (.int .i64 (0:Nat))).setCell ⟨g,7,none⟩ (.int .i64 (b:Nat)))=w4 at HB4 HR4 HW4⊢
 clear k0 k6 k7 z6 z7 hB2 hR hW2
 have k1:w4.cell? ⟨g,1,none⟩=some (.int .i64 (s.g.AB:Nat)):=HB4.out.c1
 have k11:=HB4.out.c11
 have z11:=HB4.out.fz 11
 go_wp2_with fail
 refine(TBS.out _).mono ?_
 rintro e w' ⟨rfl,rfl⟩
 go_upto_region 3 with fail
 have HB5:=hide (HB4.out.Yt tb)
 have HR5:=hide (HR4.out.far (p:=⟨g,11,none⟩) hne (.int .u64 (tb:Nat)))
 have HW5:=hide (HW4.out.setCell (p:=⟨g,11,none⟩) hg1 (.int .u64 (tb:Nat)))
 generalize (w4.setCell ⟨g,11,none⟩ (.int .u64 (tb:Nat)))=w5 at HB5 HR5 HW5⊢
 clear k1 k11 z11 HB4 HR4 HW4
 go_wp2_with (first | (refine AU HB5.out rfl _ rfl rfl ?_) | (refine AQ HR5.out hsR rfl _ _ rfl rfl rfl rfl ?_;intro w8 hB8 hk8 hs8))
 refine bodyPost_ret (Cg rfl rfl hB8) rfl ⟨by rw [HS.out],HW5.out.trans (hk8.toBelow HW5.out.size (fun k hk=>by simp at hk;omega))⟩
def GotC (w:World) (S:SN.Sc) (e:Ending) (w':World):Prop:= ∃x,e=.returned (.agg (scA x S))/\w'.ownsRow w.heap.size 66 5 x (S.g.rows*S.g.AB) (Ag (PG.cells S.g))/\Below w.heap.size w w'
theorem ZC (s:SN.Sc) (v:Value) (hs:PG.BL s.g) (w:World) (h:IsS w s v):Calls Tryz.prog 14 #[v] w (GotC w s):=by
 obtain⟨x,rfl,hg⟩:=h
 obtain⟨A,cp,rfl⟩:=Af hg
 have hsz:=size_le hs
 have hpos:0<s.g.rows*s.g.AB:=Nat.mul_pos hs.1 hs.2.2.1
 obtain⟨ad,rfl⟩: ∃ad,A=some ad:=by
  obtain⟨hl,_,_⟩:=KF hg
  obtain⟨ad,h0,_⟩:=hl.at_ (k:=0) (c:=(PG.cells s.g)[0]'(by rw [PG.BH];exact hpos)) (by simp)
  exact⟨ad,h0⟩
 have SC:=hide (fun w' (hb:Below w.heap.size w w')=>Ma (s.g.rows*s.g.AB) cp w.heap.size ad (PG.cells s.g) w' ((KF hg).1.below hb) hb.size (by omega))
 have hlen:(PG.cells s.g).length=s.g.rows*s.g.AB:=PG.BH _
 go_enter Tryz.func14,Tryz.ntmps14
 go_upto_region 1 with (first | (refine Aq rfl _ rfl rfl ?_;intro g w1 hB hb1 hg1) | (refine Bb rfl rfl ?_;intro gR w2 csR hR hsR hb2 hgR))
 have HB2:=hide (hB.below hb2 hB.lt)
 have HW2:=hide (hb1.trans (hb2.mono hb1.size))
 have HR2:=hide hR
 have dR:=hb1.size
 have hne:gR≠g:=by have:=hB.lt;omega
 have Aj:w.heap.size<=gR:=by omega
 have k2:=HB2.out.c2
 clear hB hb1 hb2 hR
 go_wp2_with fail
 refine(SC.out _ HW2.out).mono ?_
 rintro e w3 ⟨v3,rfl,hown3,hb3⟩
 obtain⟨A3,c3,rfl,_⟩:=Bo hown3
 have HO3:=hide hown3
 have HB3:=hide (HB2.out.below hb3 HB2.out.lt)
 have HR3:=hide (HR2.out.below hb3 HR2.out.lt)
 have HW3:=hide (HW2.out.trans (hb3.mono HW2.out.size))
 have k2:=HB3.out.c2
 have z2:=HB3.out.fz 2
 have HW2s:w.heap.size<=w2.heap.size:=HW2.out.size
 clear hown3 hb3 HB2 HR2 HW2
 go_upto_region 2 with fail
 have HB5:=hide (show Am (w3.setCell ⟨g,2,none⟩ (.slice A3 (s.g.rows*s.g.AB) c3)) g (.slice A3 (s.g.rows*s.g.AB) c3) s from Box.set HB3.out 2 _)
 have HR5:=hide (HR3.out.far (p:=⟨g,2,none⟩) hne (.slice A3 (s.g.rows*s.g.AB) c3))
 have HW5:=hide (HW3.out.setCell (p:=⟨g,2,none⟩) hg1 (.slice A3 (s.g.rows*s.g.AB) c3))
 have HO5:=hide (own_base' (Bl HO3.out ((Kept.refl [some g] w3).setCell (p:=⟨g,2,none⟩) (From.mem (by simp)) (.slice A3 (s.g.rows*s.g.AB) c3)) (fun b hb hm=>Ac HO3.out HB3.out (by decide) (by simp at hm;rw [hb,hm]))) HW2s)
 generalize (w3.setCell ⟨g,2,none⟩ (.slice A3 (s.g.rows*s.g.AB) c3))=w5 at HB5 HR5 HW5 HO5⊢
 clear k2 z2 HB3 HR3 HW3 HO3
 go_wp2_with (first | (refine AU HB5.out rfl _ rfl rfl ?_) | (refine AQ HR5.out hsR rfl _ _ rfl rfl rfl rfl ?_;intro w8 hB8 hk8 hs8))
 refine bodyPost_ret (Cg rfl rfl hB8) rfl ⟨_,rfl,Bl HO5.out hk8 (fun b hb hm=>Ac HO5.out HR5.out (by decide) (by simp at hm;rw [hb,hm])),HW5.out.trans (hk8.toBelow HW5.out.size (fun k hk=>by simp at hk;omega))⟩
theorem I4 (s:SN.Sc) (x:Value) (w:World):Calls Tryz.prog 111 #[.agg (scA x s)] w fun e w'=>e=.returned (.agg #[.int .i64 (-1),.int .i64 s.pen.2.1,.int .i64 0])/\Below w.heap.size w w':=by
 go_enter Tryz.func111,Tryz.ntmps111
 go_upto_region 1 with (first | (refine Aq rfl _ rfl rfl ?_;intro g w1 hB hb1 hg1))
 have k9:=fun o=>(hB.alloc o).c9
 have X:=Box.new w1 38 #[.int .i64 0,.int .i64 0,.int .i64 0]
 obtain⟨x0,x1,x2,y0,y1,y2⟩:=X.three
 go_wp2_with fail
 refine bodyPost_ret (v:=.agg #[.int .i64 (-1),.int .i64 s.pen.2.1,.int .i64 0]) (by simp [results,Tryz.results111,go_sem]) rfl ⟨rfl,hb1.alloc hb1.size _⟩
end Go.Proofs.YtoaabebgmdbjeaaGreatDoor
namespace Go.Proofs.YtoaabebgmdbjeaaGreatDoor
open Go.RowKit
def Ea (G:PG.Gr) (v:Value) (w:World):Prop:= ∃A c,v=gv G.rows G.AB (.slice A (G.rows*G.AB) c)/\w.ownsRow 0 66 5 (.slice A (G.rows*G.AB) c) (G.rows*G.AB) (Ag (PG.cells G))
theorem Ea.stays {Ts:List TypeId} {G:PG.Gr} (h:Ts.all (fun x=>x !=66)=true):Fb Ts (Ea G):=
 ⟨fun v w w' ⟨A,c,h1,h2⟩ hb=>⟨A,c,h1,Hw h2 hb⟩,fun v w w' g' T' cs' ⟨A,c,h1,h2⟩ hb hT hk=>⟨A,c,h1,Bl h2 hk (fun b hb' hm=>Ac h2 hb (fun e=>by
  have:=List.all_eq_true.1 h _ hT
  simp [e] at this) (by simp at hm;rw [hb',hm]))⟩⟩
def Qx (G:PG.Gr) (S:SN.Sc) (v:Value) (w:World):Prop:= ∃A c,v=.agg (scA (.slice A (G.rows*G.AB) c) S)/\w.ownsRow 0 66 5 (.slice A (G.rows*G.AB) c) (G.rows*G.AB) (Ag (PG.cells G))
theorem Qx.stays {Ts:List TypeId} {G:PG.Gr} {S:SN.Sc} (h:Ts.all (fun x=>x !=66)=true):Fb Ts (Qx G S):=
 ⟨fun v w w' ⟨A,c,h1,h2⟩ hb=>⟨A,c,h1,Hw h2 hb⟩,fun v w w' g' T' cs' ⟨A,c,h1,h2⟩ hb hT hk=>⟨A,c,h1,Bl h2 hk (fun b hb' hm=>Ac h2 hb (fun e=>by
  have:=List.all_eq_true.1 h _ hT
  simp [e] at this) (by simp at hm;rw [hb',hm]))⟩⟩
theorem JL {z:Int} {m R:Nat} (hm:1<=m) (h:SN.cut z m=R):((R=1/\z<1)\/((R:Int)=z/\1<=z/\z<=m)\/(R=m/\(m:Int)<z))/\1<=R/\R<=m:=by
 unfold SN.cut at h
 omega
theorem mK (r c:Int) (R K:Nat) (w:World) (hR:SN.cut r 40=R) (hK:SN.cut c 60=K) (hr: -1099511627776<=r/\r<=1099511627776) (hc: -1099511627776<=c/\c<=1099511627776):
  Calls Tryz.prog 52 #[.int .i64 r,.int .i64 c,pv PG.plain] w (DN w (PG.newG R K PG.plain)):=
 (bq r c R K PG.plain w (by omega) (by omega) (by omega) (by omega) (JL (by omega) hR).1 (JL (by omega) hK).1).mono fun e w' h=>KC h (PG.OP R K PG.plain) rfl rfl
theorem VH (r c:Int) (R K:Nat) (hR:SN.cut r 40=R) (hK:SN.cut c 60=K) (hr: -1099511627776<=r/\r<=1099511627776) (hc: -1099511627776<=c/\c<=1099511627776) (w:World):
  Calls Tryz.prog 21 #[.int .i64 r,.int .i64 c] w (Az w (SN.full R K)):=by
 obtain⟨_,hR1,hR2⟩:=JL (by omega) hR
 obtain⟨_,hK1,hK2⟩:=JL (by omega) hK
 have NW:=hide (fun w'=>(show Calls Tryz.prog 52 #[.int .i64 r,.int .i64 c,.agg #[.int .i64 (-1),.int .i64 (-1),.int .i64 0]] w' (DN w' (PG.newG R K PG.plain)) from mK r c R K w' hR hK hr hc))
 have PL:=hide (fun w'=>(Vr w').mono fun e w'' (h:_/\_)=>(⟨h.1,h.2▸(Below.refl w'.heap.size w').alloc (Nat.le_refl _) _⟩:e=.returned (.agg #[.int .i64 (-1),.int .i64 (-1),.int .i64 0])/\Below w'.heap.size w' w''))
 have FT:=hide (fun A n cp w'=>Wi ⟨PG.newG R K PG.plain,0,0,false,0,0,PG.plain,0,66,66,0,true,false,true,false,false,⟨0,0,PG.plain,66,66,0,false⟩⟩ A n cp (show 1<=R from hR1) (show R<=40 from hR2) (show K<=60 from hK2) w')
 have HGE:=hide (show(SN.full R K).g=PG.newG R K PG.plain from rfl)
 rw [show SN.Sc.fit ⟨PG.newG R K PG.plain,0,0,false,0,0,PG.plain,0,66,66,0,true,false,true,false,false,⟨0,0,PG.plain,66,66,0,false⟩⟩=SN.full R K from rfl] at FT
 generalize PG.newG R K PG.plain=G at NW FT HGE
 obtain⟨S0,hS0⟩: ∃S0:SN.Sc,S0=⟨G,0,0,false,0,0,PG.plain,0,66,66,0,true,false,true,false,false,⟨0,0,PG.plain,66,66,0,false⟩⟩:=⟨_,rfl⟩
 rw [<- hS0] at FT
 have HSE:=hide hS0
 generalize SN.full R K=T at FT HGE⊢
 clear hS0 hR hK hr hc
 go_enter Tryz.func21,Tryz.ntmps21
 go_upto_region 2 with (first | (refine Bb rfl rfl ?_;intro gR w1 csR hR hsR hb1 hgR))
 have HA:=hide (Box.new w1 39 #[.int .u8 66,.int .u8 66])
 have HR:=hide (hR.alloc (.cells #[.int .u8 66,.int .u8 66] 39))
 have HW:=hide (hb1.alloc hb1.size (.cells #[.int .u8 66,.int .u8 66] 39))
 generalize w1.heap.size=gA at HA⊢
 generalize w1.alloc (.cells #[.int .u8 66,.int .u8 66] 39)=w2 at HA HR HW⊢
 clear hR hb1
 refine Bc (n:=18) 11 [] (fun _=> #[]) [(0,0,0,0,0),(0,0,0,0,0),(0,0,0,0,0),(1,0,0,0,0),(0,0,0,0,0),(0,0,0,0,0),(0,0,0,0,0),(0,0,0,0,0),(0,0,0,0,0),(1,0,0,0,0),(1,0,0,0,0),(0,0,0,0,0)] (fun j=> [(.int .i64 r),(.int .i64 c),(.agg #[.int .i64 (-1),.int .i64 (-1),.int .i64 0]),undef,(.agg #[.int .i64 (-1),.int .i64 (-1),.int .i64 0]),(.agg #[.int .u8 66,.int .u8 66]),(.agg #[.int .i64 (-1),.int .i64 (-1),.int .i64 0]),(.agg #[.int .u8 66,.int .u8 66]),(.agg #[.int .i64 0,.int .i64 0,.int .i64 (-1),.int .i64 (-1),.int .i64 0,.int .u8 66,.int .u8 66,.int .i64 0,.bool false]),undef,undef,undef].getD j undef) [none,none,none,some (Ea G),none,none,none,none,none,some (Qx G S0),some (Qx G T)] (fun _=>0) (by kernel_rfl) (by kernel_rfl) (by kernel_rfl) rfl (by kernel_rfl) (by kernel_rfl) (Dj rfl) (fun i j h=>by revert h;exact Dj (p:=fun _=>_) rfl i) (Ah.none_ (Ah.none_ (Ah.none_ (Ah.some_ (Ea.stays (by kernel_rfl)) (Ah.none_ (Ah.none_ (Ah.none_ (Ah.none_ (Ah.none_ (Ah.some_ (Qx.stays (by kernel_rfl)) (Ah.some_ (Qx.stays (by kernel_rfl)) (Ah.nil _)))))))))))) (fun hGS=>Lf ⟨?_,?_,?_,?_,?_,?_,?_,?_,?_,?_,?_⟩) ?_
 ·intro L a w' hL hsame hsz hJ AJ hcl
  refine BA hJ hGS hcl hL 0 (.int .i64 r) (.int .i64 r) (AY hsame (by kernel_rfl)) _ rfl rfl rfl rfl rfl fun ρ _ e0=>?_
  clear hJ hsame AJ hcl hsz
  go_simp
 ·intro L a w' hL hsame hsz hJ AJ hcl
  refine BA hJ hGS hcl hL 1 (.int .i64 c) (.int .i64 c) (AY hsame (by kernel_rfl)) _ rfl rfl rfl rfl rfl fun ρ _ e0=>?_
  clear hJ hsame AJ hcl hsz
  go_simp
 ·intro L a w' hL hsame hsz hJ AJ hcl
  have hb:=hJ.kept.toBelow (Nat.le_refl _) (by simp)
  refine Step.call _ rfl rfl (AX rfl) 53 #[] (fun ρ hρ=>?_) ?_
  ·skip
   have ef:ρ (.func 53)=.func (.func 53) #[] #[] :=(hρ _).symm
   clear hJ hsame AJ hcl hρ hsz hb
   go_simp
  ·refine(PL.out _).mono ?_
   rintro e w2 ⟨rfl,bb⟩
   exact⟨_,rfl,hJ.val hGS hcl hL rfl bb _ rfl⟩
 ·intro L a w' hL hsame hsz hJ AJ hcl
  have hb:=hJ.kept.toBelow (Nat.le_refl _) (by simp)
  have e0:a.eval (.tmp 7)=(.int .i64 r):=AV (j:=0) (by kernel_rfl) (hJ.valOf (by decide) (AZ AJ 0 (by kernel_rfl)) rfl rfl)
  have e1:a.eval (.tmp 8)=(.int .i64 c):=AV (j:=1) (by kernel_rfl) (hJ.valOf (by decide) (AZ AJ 1 (by kernel_rfl)) rfl rfl)
  have e2:a.eval (.tmp 9)=(.agg #[.int .i64 (-1),.int .i64 (-1),.int .i64 0]):=AV (j:=2) (by kernel_rfl) (hJ.valOf (by decide) (AZ AJ 2 (by kernel_rfl)) rfl rfl)
  refine Step.call _ rfl rfl (AX rfl) 52 #[.int .i64 r,.int .i64 c,.agg #[.int .i64 (-1),.int .i64 (-1),.int .i64 0]] (fun ρ hρ=>?_) ?_
  ·skip
   rw [hρ] at e0 e1 e2
   have ef:ρ (.func 52)=.func (.func 52) #[] #[] :=(hρ _).symm
   clear hJ hsame AJ hcl hρ hsz hb
   go_simp
  ·refine(NW.out _).mono ?_
   rintro e w2 ⟨v,rfl,⟨y,rfl,ho⟩,bb⟩
   obtain⟨A3,c3,rfl⟩:=Af (G:=G) ⟨_,rfl,ho⟩
   exact⟨_,rfl,hJ.pred hGS hcl hL rfl bb _ ⟨A3,c3,rfl,ho⟩⟩
 ·intro L a w' hL hsame hsz hJ AJ hcl
  have hb:=hJ.kept.toBelow (Nat.le_refl _) (by simp)
  refine Step.call _ rfl rfl (AX rfl) 53 #[] (fun ρ hρ=>?_) ?_
  ·skip
   have ef:ρ (.func 53)=.func (.func 53) #[] #[] :=(hρ _).symm
   clear hJ hsame AJ hcl hρ hsz hb
   go_simp
  ·refine(PL.out _).mono ?_
   rintro e w2 ⟨rfl,bb⟩
   exact⟨_,rfl,hJ.val hGS hcl hL rfl bb _ rfl⟩
 ·intro L a w' hL hsame hsz hJ AJ hcl
  have hx:=hJ.Ai (HA.out) (by simp)
  have q0:w'.cell? ⟨gA,0,none⟩=some (.int .u8 66):=hx.cell 0
  have q1:w'.cell? ⟨gA,1,none⟩=some (.int .u8 66):=hx.cell 1
  refine BA hJ hGS hcl hL 5 (.pointer (some ⟨gA,0,none⟩)) (.agg #[.int .u8 66,.int .u8 66]) (AY hsame (by kernel_rfl)) _ rfl rfl rfl rfl rfl fun ρ _ e0=>?_
  clear hJ hsame AJ hcl hsz hx
  go_simp
 ·intro L a w' hL hsame hsz hJ AJ hcl
  have hb:=hJ.kept.toBelow (Nat.le_refl _) (by simp)
  refine Step.call _ rfl rfl (AX rfl) 53 #[] (fun ρ hρ=>?_) ?_
  ·skip
   have ef:ρ (.func 53)=.func (.func 53) #[] #[] :=(hρ _).symm
   clear hJ hsame AJ hcl hρ hsz hb
   go_simp
  ·refine(PL.out _).mono ?_
   rintro e w2 ⟨rfl,bb⟩
   exact⟨_,rfl,hJ.val hGS hcl hL rfl bb _ rfl⟩
 ·intro L a w' hL hsame hsz hJ AJ hcl
  have hx:=hJ.Ai (HA.out) (by simp)
  have q0:w'.cell? ⟨gA,0,none⟩=some (.int .u8 66):=hx.cell 0
  have q1:w'.cell? ⟨gA,1,none⟩=some (.int .u8 66):=hx.cell 1
  refine BA hJ hGS hcl hL 5 (.pointer (some ⟨gA,0,none⟩)) (.agg #[.int .u8 66,.int .u8 66]) (AY hsame (by kernel_rfl)) _ rfl rfl rfl rfl rfl fun ρ _ e0=>?_
  clear hJ hsame AJ hcl hsz hx
  go_simp
 ·intro L a w' hL hsame hsz hJ AJ hcl
  refine lF hJ hGS hcl hL 13 14 (.agg #[.int .i64 (-1),.int .i64 (-1),.int .i64 0]) (.agg #[.int .u8 66,.int .u8 66]) (.agg #[.int .i64 0,.int .i64 0,.int .i64 (-1),.int .i64 (-1),.int .i64 0,.int .u8 66,.int .u8 66,.int .i64 0,.bool false]) (gslot hJ AJ 6 (by kernel_rfl) (by kernel_rfl) (by decide) rfl rfl) (gslot hJ AJ 7 (by kernel_rfl) (by kernel_rfl) (by decide) rfl rfl) _ rfl rfl rfl rfl rfl fun ρ _ e0 e1=>?_
  clear hJ hsame AJ hcl hsz
  go_simp
 ·intro L a w' hL hsame hsz hJ AJ hcl
  have hb:=hJ.kept.toBelow (Nat.le_refl _) (by simp)
  obtain⟨A3,c3,hv3,ho3⟩:=(show(Ea G) (valOf _ 3 a) w' from hJ.CB (by decide) (AZ AJ 3 (by kernel_rfl)) rfl)
  have e0:a.eval (.tmp 10)=.agg #[.int .i64 (G.rows:Nat),.int .i64 (G.AB:Nat),.slice A3 (G.rows*G.AB) c3] :=AV (j:=3) (by kernel_rfl) hv3
  have e1:a.eval (.tmp 11)=(.agg #[.int .i64 (-1),.int .i64 (-1),.int .i64 0]):=AV (j:=4) (by kernel_rfl) (hJ.valOf (by decide) (AZ AJ 4 (by kernel_rfl)) rfl rfl)
  have e2:a.eval (.tmp 12)=(.agg #[.int .u8 66,.int .u8 66]):=AV (j:=5) (by kernel_rfl) (hJ.valOf (by decide) (AZ AJ 5 (by kernel_rfl)) rfl rfl)
  have e5:a.eval (.tmp 15)=(.agg #[.int .i64 0,.int .i64 0,.int .i64 (-1),.int .i64 (-1),.int .i64 0,.int .u8 66,.int .u8 66,.int .i64 0,.bool false]):=AV (j:=8) (by kernel_rfl) (hJ.valOf (by decide) (AZ AJ 8 (by kernel_rfl)) rfl rfl)
  refine Step.val _ rfl rfl (AX rfl) (.agg (scA (.slice A3 (G.rows*G.AB) c3) S0)) (w') (fun ρ hρ=>?_) (hJ.pred hGS hcl hL rfl (Below.refl _ _) _ (⟨A3,c3,rfl,ho3⟩))
  rw [hρ] at e0 e1 e2 e5
  have ec0:ρ (.const (.bool true))=(.bool true):=(hρ _).symm
  clear hJ hsame AJ hcl hρ hsz hb
  go_simp
  rw [HSE.out]
  rfl
 ·intro L a w' hL hsame hsz hJ AJ hcl
  have hb:=hJ.kept.toBelow (Nat.le_refl _) (by simp)
  obtain⟨A9,c9,hv9,ho9⟩:=(show(Qx G S0) (valOf _ 9 a) w' from hJ.CB (by decide) (AZ AJ 9 (by kernel_rfl)) rfl)
  have e0:a.eval (.tmp 16)=.agg (scA (.slice A9 (G.rows*G.AB) c9) S0):=AV (j:=9) (by kernel_rfl) hv9
  refine Step.call _ rfl rfl (AX rfl) 51 #[.agg (scA (.slice A9 (G.rows*G.AB) c9) S0)] (fun ρ hρ=>?_) ?_
  ·skip
   rw [hρ] at e0
   have ef:ρ (.func 51)=.func (.func 51) #[] #[] :=(hρ _).symm
   clear hJ hsame AJ hcl hρ hsz hb
   go_simp
  ·refine(FT.out _ _ _ _).mono ?_
   rintro e w2 ⟨rfl,bb⟩
   exact⟨_,rfl,hJ.pred hGS hcl hL rfl bb _ ⟨A9,c9,rfl,Hw ho9 bb⟩⟩
 ·intro L u w' hF hall
  change wpList _ _ _ _ (Act.put (Act.put (Act.put (Act.put (Act.put (Act.put (Act.put (Act.put (Act.put (Act.put (Act.put (Act.put (BG _ u 0 _) (some 7) (u 0)) (some 8) (u 1)) (some 9) (u 2)) (some 10) (u 3)) (some 11) (u 4)) (some 12) (u 5)) (some 13) (u 6)) (some 14) (u 7)) (some 15) (u 8)) (some 16) (u 9)) (some 17) (u 10)) none (u 11)) _
  simp only [BG]
  obtain⟨A4,c4,f10,ho4⟩:=(show Qx G T (u 10) w' from hF.CB (j:=10) (by decide) (hall 10 (by decide)) rfl)
  have hk:=hF.kept.toBelow (Nat.le_refl _) (by simp)
  clear hF
  generalize u 0=z0
  generalize u 1=z1
  generalize u 2=z2
  generalize u 3=z3
  generalize u 4=z4
  generalize u 5=z5
  generalize u 6=z6
  generalize u 7=z7
  generalize u 8=z8
  generalize u 9=z9
  generalize u 10=z10 at f10⊢
  generalize u 11=z11
  subst f10
  simp only [List.drop_succ_cons,List.drop_zero]
  refine AQ (x:=.slice A4 (G.rows*G.AB) c4) (s:=T) (HR.out.below hk HR.out.lt) hsR rfl _ _ rfl (by go_simp) (by go_simp) rfl ?_
  intro w8 hB8 hk8 hs8
  change Exit.then _ _ Exit.normal _ _
  go_simp
  go_step
  refine wp_ret ?_
  (try simp only [Exit.then,Exit.inBlock])
  have hw:=HW.out.trans (hk.mono HW.out.size)
  refine bodyPost_ret (Cg rfl rfl hB8) rfl ⟨_,rfl,⟨_,rfl,?_⟩,hw.trans (hk8.toBelow hw.size (fun k hh=>by simp at hh;omega))⟩
  rw [HGE.out]
  exact IsG.kept (G:=G) ⟨_,rfl,ho4⟩ (HR.out.below hk HR.out.lt) (by decide) hk8
end Go.Proofs.YtoaabebgmdbjeaaGreatDoor
namespace Go.Proofs.YtoaabebgmdbjeaaGreatDoor
open Go.RowKit
theorem Wj:(Tryz.prog.info? 37).map (·.size)=some 3:=by kernel_rfl
theorem Ch {ops:Array Oper} {rest:List Oper} {o:Oper} {a:Act} {w:World} {Q:Exit->Act->World->Prop} {x y:Value} {s:SN.Sc} {g:Nat} {G:PG.Gr} (h:Am w g x s) (hgd:o.guard=none) (p z:Operand) (ho:o.op=.store 37 p z) (hx:a.eval p=.pointer (some ⟨g,0,none⟩))
  (hy:a.eval z=.agg #[.int .i64 G.rows,.int .i64 G.AB,y]) (h1:y.oneCell'=true)
  (hk: ∀w',Am w' g y (s.uG G)->Kept [some g] w w'->w'.heap.size=w.heap.size->wpList Tryz.prog ops Q rest (a.put o.dst undef) w'):wpList Tryz.prog ops Q (o::rest) a w:=
 F7 0 h (by show 0+3<=(scA x s).size;rw [KD];decide) hgd _ p z ho hx hy Wj (by cases y<;>first | (simp [Value.oneCell'];done) | (simp [Value.oneCell'] at h1)) (fun w' h1 h2 h3=>hk w' (by
  have e:=Yq x y s G
  show Box w' g _ _
  rw [<- e]
  exact h1) h2 h3)
end Go.Proofs.YtoaabebgmdbjeaaGreatDoor
