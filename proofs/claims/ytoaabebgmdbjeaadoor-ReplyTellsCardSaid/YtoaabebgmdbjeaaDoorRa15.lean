/- The document's own num and Reply (linguistref15), told plainly. (written by tools/genrefreply.py) -/
import Derived.Test.YtoaabebgmdbjeaaDoorRa12
set_option maxRecDepth 100000
set_option maxHeartbeats 16000000
set_option linter.unusedVariables false
namespace Go.Proofs.YtoaabebgmdbjeaaDoor
open Go Go.RowKit
theorem DV (l:List Int):(strOfNums l).size=l.length:=by simp [strOfNums,ByteArray.size]
theorem AX (l m:List Int):strOfNums l++strOfNums m=strOfNums (l++m):=by
 apply ByteArray.ext
 simp [strOfNums,ByteArray.data_append]
theorem Py: ∀(k n:Nat),k<=100->n<10 ^ (k+1)->n<=100000-> ∀w:World,Calls Tryd.prog 22 #[.int .i64 (n:Nat)] w fun e w'=>e=.returned (.string (strOfNums (PA.Bo k n)))/\Below w.heap.size w w':=by
 intro k
 induction k with
 | zero=>
  intro n hk hn hm w
  have h1:(n:Int)<10:=by omega
  have cv:=Cc (w:=w.alloc (.cells #[.int .u8 (48+(n:Int))] 5)) (n:=1) (c:=1) (l:= [48+(n:Int)]) (Seen.Bq (Box.new w 5 #[.int .u8 (48+(n:Int))]) rfl rfl (Box.new w 5 #[.int .u8 (48+(n:Int))]).lt)
  have hw:IntKind.u8.wrap (48+(n:Int))=48+(n:Int):=IntWalk.u8_in _ (by omega)
  go_enter Tryd.func22,Tryd.ntmps22
  go_wp2_with fail
  go_ret
  exact⟨rfl,(Below.refl w.heap.size w).alloc (Nat.le_refl _) _⟩
 | succ k ih=>
  intro n hk hn hm w
  unfold PA.Bo
  by_cases h:n<10
  ·rw [if_pos h]
   have h1:(n:Int)<10:=by omega
   have cv:=Cc (w:=w.alloc (.cells #[.int .u8 (48+(n:Int))] 5)) (n:=1) (c:=1) (l:= [48+(n:Int)]) (Seen.Bq (Box.new w 5 #[.int .u8 (48+(n:Int))]) rfl rfl (Box.new w 5 #[.int .u8 (48+(n:Int))]).lt)
   have hw:IntKind.u8.wrap (48+(n:Int))=48+(n:Int):=IntWalk.u8_in _ (by omega)
   go_enter Tryd.func22,Tryd.ntmps22
   go_wp2_with fail
   go_ret
   exact⟨rfl,(Below.refl w.heap.size w).alloc (Nat.le_refl _) _⟩
  ·rw [if_neg h]
   have h1: ¬(n:Int)<10:=by omega
   have IH:=hide (fun w'=>ih (n / 10) (by omega) (by rw [Nat.div_lt_iff_lt_mul (by decide)];rw [Nat.pow_succ] at hn;exact hn) (by omega) w')
   obtain⟨q,hq⟩: ∃q:Nat,n / 10=q:=⟨_,rfl⟩
   obtain⟨r,hr⟩: ∃r:Nat,n%10=r:=⟨_,rfl⟩
   have hr9:r<=9:=by omega
   have hqI:(n:Int).tdiv 10=(q:Nat):=by rw [<- hq,Int.tdiv_eq_ediv_of_nonneg (by omega)];omega
   have hrI:(n:Int).tmod 10=(r:Nat):=by rw [<- hr,Int.tmod_eq_emod_of_nonneg (by omega)];omega
   rw [hq] at IH⊢
   rw [hr]
   have HQ:=hide (show IntKind.i64.wrap ((n:Int) / 10)=(q:Nat) by rw [IntWalk.i64_in _ (by omega)];omega)
   have HR:=hide hrI
   have hlen:(PA.Bo k q).length<=k+1:=CY k q
   have hsz:(PA.Bo k q++ [48+(r:Int)]).length<=k+2:=by simp;omega
   have hw:IntKind.u8.wrap (48+(r:Int))=48+(r:Int):=IntWalk.u8_in _ (by omega)
   have hwi:IntKind.i64.wrap (48+(r:Int))=48+(r:Int):=IntWalk.i64_in _ (by omega)
   have SA:=hide (AX (PA.Bo k q) [48+(r:Int)])
   have Z1:=hide (DV (PA.Bo k q))
   have Z2:=hide (DV [48+(r:Int)])
   have hD:(PA.Bo k q).length<=101:=by omega
   have HD:=hide hD
   generalize PA.Bo k q=D at*
   clear ih hq hr hn hm h hqI hrI hD hlen hsz
   go_enter Tryd.func22,Tryd.ntmps22
   go_upto_region 3 with fail
   refine Dp (n:=20) [] (fun _=> #[]) [(0,0,0,0,0),(0,0,0,0,0),(0,0,0,0,0),(0,0,0,0,0),(0,0,0,0,0),(0,0,0,0,0),(0,0,0,0,0),(1,0,0,0,0),(0,0,0,0,0),(0,0,0,0,0),(0,0,0,0,0)] (fun j=> [(.int .i64 (n:Nat)),(.int .i64 (q:Nat)),(.string (strOfNums D)),(.int .i64 (n:Nat)),(.int .i64 (r:Nat)),(.int .i64 (48+(r:Int))),(.int .u8 (48+(r:Int))),undef,(.string (strOfNums [48+(r:Int)])),(.string (strOfNums (D++ [48+(r:Int)]))),(.string (strOfNums (D++ [48+(r:Int)])))].getD j undef) [none,none,none,none,none,none,none,some (El 5 1 #[.int .u8 (48+(r:Int))])] (fun _=>0) (by kernel_rfl) (by kernel_rfl) (by kernel_rfl) rfl (by kernel_rfl) (Fv rfl) (fun i j h=>by revert h;exact Fv (p:=fun _=>_) rfl i) (Az.none_ (Az.none_ (Az.none_ (Az.none_ (Az.none_ (Az.none_ (Az.none_ (Az.some_ (El.stays (by kernel_rfl)) (Az.nil _))))))))) (fun hGS=>F3 ⟨?_,?_,?_,?_,?_,?_,?_,?_,?_,?_,?_⟩) ?_
   ·intro L a w' hL hsame hsz hJ AA hcl
    have hb:=hJ.kept.toBelow (Nat.le_refl _) (by simp)
    have e0:a.eval (.tmp 0)=(.int .i64 (n:Nat)):=Aa hsame (by kernel_rfl)
    refine Step.val _ rfl rfl (AJ rfl) (.int .i64 (n:Nat)) w' (fun ρ hρ=>?_) (hJ.val hGS hcl hL rfl (Below.refl _ _) _ rfl)
    rw [hρ] at e0
    clear hJ hsame AA hcl hρ hsz hb
    go_simp
   ·intro L a w' hL hsame hsz hJ AA hcl
    have hb:=hJ.kept.toBelow (Nat.le_refl _) (by simp)
    have e0:a.eval (.tmp 10)=(.int .i64 (n:Nat)):=AB (j:=0) (by kernel_rfl) (hJ.valOf (by decide) (AL AA 0 (by kernel_rfl)) rfl rfl)
    refine Step.val _ rfl rfl (AJ rfl) (.int .i64 (q:Nat)) w' (fun ρ hρ=>?_) (hJ.val hGS hcl hL rfl (Below.refl _ _) _ rfl)
    rw [hρ] at e0
    have ec0:ρ (.const (.int .i64 10))=(.int .i64 10):=(hρ _).symm
    clear hJ hsame AA hcl hρ hsz hb
    go_simp
    first | done | exact HQ.out | (rw [HQ.out])
   ·intro L a w' hL hsame hsz hJ AA hcl
    have hb:=hJ.kept.toBelow (Nat.le_refl _) (by simp)
    have e0:a.eval (.tmp 11)=(.int .i64 (q:Nat)):=AB (j:=1) (by kernel_rfl) (hJ.valOf (by decide) (AL AA 1 (by kernel_rfl)) rfl rfl)
    refine Step.call _ rfl rfl (AJ rfl) 22 #[.int .i64 (q:Nat)] (fun ρ hρ=>?_) ?_
    ·skip
     rw [hρ] at e0
     have ef:ρ (.func 22)=.func (.func 22) #[] #[] :=(hρ _).symm
     clear hJ hsame AA hcl hρ hsz hb
     go_simp
    ·refine(IH.out w').mono ?_
     rintro e w2 ⟨rfl,bb⟩
     exact⟨_,rfl,hJ.val hGS hcl hL rfl bb _ rfl⟩
   ·intro L a w' hL hsame hsz hJ AA hcl
    have hb:=hJ.kept.toBelow (Nat.le_refl _) (by simp)
    have e0:a.eval (.tmp 0)=(.int .i64 (n:Nat)):=Aa hsame (by kernel_rfl)
    refine Step.val _ rfl rfl (AJ rfl) (.int .i64 (n:Nat)) w' (fun ρ hρ=>?_) (hJ.val hGS hcl hL rfl (Below.refl _ _) _ rfl)
    rw [hρ] at e0
    clear hJ hsame AA hcl hρ hsz hb
    go_simp
   ·intro L a w' hL hsame hsz hJ AA hcl
    have hb:=hJ.kept.toBelow (Nat.le_refl _) (by simp)
    have e0:a.eval (.tmp 13)=(.int .i64 (n:Nat)):=AB (j:=3) (by kernel_rfl) (hJ.valOf (by decide) (AL AA 3 (by kernel_rfl)) rfl rfl)
    refine Step.val _ rfl rfl (AJ rfl) (.int .i64 (r:Nat)) w' (fun ρ hρ=>?_) (hJ.val hGS hcl hL rfl (Below.refl _ _) _ rfl)
    rw [hρ] at e0
    have ec0:ρ (.const (.int .i64 10))=(.int .i64 10):=(hρ _).symm
    clear hJ hsame AA hcl hρ hsz hb
    go_simp
    first | done | exact HR.out | (rw [HR.out])
   ·intro L a w' hL hsame hsz hJ AA hcl
    have hb:=hJ.kept.toBelow (Nat.le_refl _) (by simp)
    have e1:a.eval (.tmp 14)=(.int .i64 (r:Nat)):=AB (j:=4) (by kernel_rfl) (hJ.valOf (by decide) (AL AA 4 (by kernel_rfl)) rfl rfl)
    refine Step.val _ rfl rfl (AJ rfl) (.int .i64 (48+(r:Int))) w' (fun ρ hρ=>?_) (hJ.val hGS hcl hL rfl (Below.refl _ _) _ rfl)
    rw [hρ] at e1
    have ec0:ρ (.const (.int .i64 48))=(.int .i64 48):=(hρ _).symm
    clear hJ hsame AA hcl hρ hsz hb
    go_simp
   ·intro L a w' hL hsame hsz hJ AA hcl
    have hb:=hJ.kept.toBelow (Nat.le_refl _) (by simp)
    have e0:a.eval (.tmp 15)=(.int .i64 (48+(r:Int))):=AB (j:=5) (by kernel_rfl) (hJ.valOf (by decide) (AL AA 5 (by kernel_rfl)) rfl rfl)
    refine Step.val _ rfl rfl (AJ rfl) (.int .u8 (48+(r:Int))) w' (fun ρ hρ=>?_) (hJ.val hGS hcl hL rfl (Below.refl _ _) _ rfl)
    rw [hρ] at e0
    clear hJ hsame AA hcl hρ hsz hb
    go_simp
   ·intro L a w' hL hsame hsz hJ AA hcl
    have hb:=hJ.kept.toBelow (Nat.le_refl _) (by simp)
    have e0:a.eval (.tmp 16)=(.int .u8 (48+(r:Int))):=AB (j:=6) (by kernel_rfl) (hJ.valOf (by decide) (AL AA 6 (by kernel_rfl)) rfl rfl)
    refine Step.val _ rfl rfl (AJ rfl) (.slice (some ⟨w'.heap.size,0,none⟩) 1 1) (w'.alloc (.cells #[.int .u8 (48+(r:Int))] 5)) (fun ρ hρ=>?_) (hJ.pred hGS hcl hL rfl ((Below.refl _ _).alloc (Nat.le_refl _) _) _ (⟨_,rfl,Box.new w' _ _⟩))
    rw [hρ] at e0
    clear hJ hsame AA hcl hρ hsz hb
    go_simp
   ·intro L a w' hL hsame hsz hJ AA hcl
    have hb:=hJ.kept.toBelow (Nat.le_refl _) (by simp)
    obtain⟨g7,hv7,hs7⟩:=(show(El 5 1 #[.int .u8 (48+(r:Int))]) (valOf _ 7 a) w' from hJ.Ci (by decide) (AL AA 7 (by kernel_rfl)) rfl)
    have e0:a.eval (.tmp 17)=.slice (some ⟨g7,0,none⟩) 1 1:=AB (j:=7) (by kernel_rfl) hv7
    refine Step.val _ rfl rfl (AJ rfl) (.string (strOfNums [48+(r:Int)])) w' (fun ρ hρ=>?_) (hJ.val hGS hcl hL rfl (Below.refl _ _) _ rfl)
    rw [hρ] at e0
    clear hJ hsame AA hcl hρ hsz hb
    have cv:=Cc (n:=1) (c:=1) (l:= [48+(r:Int)]) (Seen.Bq (xs:=u8s [48+(r:Int)]) hs7 rfl rfl hs7.lt)
    go_simp
   ·intro L a w' hL hsame hsz hJ AA hcl
    have hb:=hJ.kept.toBelow (Nat.le_refl _) (by simp)
    have e0:a.eval (.tmp 12)=(.string (strOfNums D)):=AB (j:=2) (by kernel_rfl) (hJ.valOf (by decide) (AL AA 2 (by kernel_rfl)) rfl rfl)
    have e1:a.eval (.tmp 18)=(.string (strOfNums [48+(r:Int)])):=AB (j:=8) (by kernel_rfl) (hJ.valOf (by decide) (AL AA 8 (by kernel_rfl)) rfl rfl)
    refine Step.val _ rfl rfl (AJ rfl) (.string (strOfNums (D++ [48+(r:Int)]))) w' (fun ρ hρ=>?_) (hJ.val hGS hcl hL rfl (Below.refl _ _) _ rfl)
    rw [hρ] at e0 e1
    clear hJ hsame AA hcl hρ hsz hb
    have sa:=SA.out
    have z1:=Z1.out
    have z2:=Z2.out
    have hD:=HD.out
    go_simp
    all_goals (first | done | (simp only [List.length_cons,List.length_nil] at z2;omega))
   ·intro L a w' hL hsame hsz hJ AA hcl
    have hb:=hJ.kept.toBelow (Nat.le_refl _) (by simp)
    have e0:a.eval (.tmp 19)=(.string (strOfNums (D++ [48+(r:Int)]))):=AB (j:=9) (by kernel_rfl) (hJ.valOf (by decide) (AL AA 9 (by kernel_rfl)) rfl rfl)
    refine Step.val _ rfl rfl (AJ rfl) (.string (strOfNums (D++ [48+(r:Int)]))) w' (fun ρ hρ=>?_) (hJ.val hGS hcl hL rfl (Below.refl _ _) _ rfl)
    rw [hρ] at e0
    clear hJ hsame AA hcl hρ hsz hb
    go_simp
   ·intro u w' hF
    change Exit.then _ _ Exit.normal (Act.put (Act.put (Act.put (Act.put (Act.put (Act.put (Act.put (Act.put (Act.put (Act.put (Act.put (BH _ u 0 _) (some 10) (u 0)) (some 11) (u 1)) (some 12) (u 2)) (some 13) (u 3)) (some 14) (u 4)) (some 15) (u 5)) (some 16) (u 6)) (some 17) (u 7)) (some 18) (u 8)) (some 19) (u 9)) (some 2) (u 10)) _
    simp only [BH]
    obtain f10:u 10=.string (strOfNums (D++ [48+(r:Int)])):=hF.O4 (j:=10) (by decide) rfl rfl
    have hk:=hF.kept.toBelow (Nat.le_refl _) (by simp)
    clear hF
    generalize u 0=y0
    generalize u 1=y1
    generalize u 2=y2
    generalize u 3=y3
    generalize u 4=y4
    generalize u 5=y5
    generalize u 6=y6
    generalize u 7=y7
    generalize u 8=y8
    generalize u 9=y9
    generalize u 10=y10 at f10⊢
    subst f10
    go_simp
    go_step
    go_wp2_with fail
    go_ret
    exact⟨rfl,hk⟩
theorem Ir (n:Nat) (h:n<=100000) (w:World):Calls Tryd.prog 22 #[.int .i64 (n:Nat)] w fun e w'=>e=.returned (.string (strOfNums (PA.BI n)))/\Below w.heap.size w w':=
 Py 20 n (by omega) (Nat.lt_of_le_of_lt h (by decide)) h w
theorem Lu (s:SN.Sc) (x:Value) (kd rn pv it fn:Int) (Ae:Option Addr) (n c B:Nat) (tx:ByteArray) (l:List Int) (w:World) (bs:List Int) (hbs:RP.said s kd pv it fn l=bs) (hr:s.row<=60000) (hc:s.col<=60000) (htp:s.top<=60000) (hx:x.oneCell'=true) (hl:Seen w B Ae n (Aj l)) (hB:B<=w.heap.size) (hn:n<=100) (hlb: ∀x∈l, -1<=x/\x<=65535):
  Calls Tryd.prog 12 #[.agg (scA x s),.agg #[.int .i64 kd,.int .i32 rn,.int .u8 pv,.int .u8 it,.int .u8 fn,.slice Ae n c,.string tx]] w fun e w'=>e=.returned (.string (strOfNums bs))/\Below w.heap.size w w':=by
 obtain⟨nn,hnn⟩: ∃nn,RP.first l=nn:=⟨_,rfl⟩
 have hnb:=RP.FD (fun y hy=>(hlb y hy).2)
 rw [hnn] at hnb
 have hl0:=hl
 have hlen:l.length=n:=by simpa [Aj] using hl.1
 obtain⟨m,hm⟩: ∃m,(if s.org then s.row-s.top else s.row)=m:=⟨_,rfl⟩
 have hm1:m<=60000:=by rw [<- hm];split<;>omega
 obtain⟨cp,hcp⟩: ∃b,((it==36)&&((pv==63)&&(fn==112)))=b:=⟨_,rfl⟩
 have HCP:=hide hcp
 obtain⟨c0,hc0⟩: ∃b,((it==0)&&(pv==0))=b:=⟨_,rfl⟩
 obtain⟨d0,hd0⟩: ∃b,(!((it==0)&&(pv==0)))=b:=⟨_,rfl⟩
 have HD0:=hide hd0
 have HDC:=hide (show d0= !c0 by rw [<- hd0, <- hc0])
 obtain⟨c5,hc5⟩: ∃b,((fn==110)&&(nn==5))=b:=⟨_,rfl⟩
 have HC5:=hide hc5
 obtain⟨c6,hc6⟩: ∃b,((fn==110)&&(nn==6))=b:=⟨_,rfl⟩
 have HC6:=hide hc6
 obtain⟨c9,hc9⟩: ∃b,((fn==99)&&(nn==0))=b:=⟨_,rfl⟩
 have HC9:=hide hc9
 have HA:=hide (show bs=if kd=4 then (if cp then [27,91,63] ++PA.BI nn.toNat++ [59] ++ [48+SN.Ad s nn] ++ [36,121] else if c0 then (if c5 then [27,91,48,110] else if c6 then [27,91] ++PA.BI (m+1)++ [59] ++PA.BI (s.col+1)++ [82] else if c9 then [27,91,63,54,99] else []) else []) else [] by
  rw [<- hbs, <- hc5, <- hc6, <- hc9, <- hcp, <- hc0, <- hnn, <- hm]
  unfold RP.said
  by_cases hk:kd=4
  ·simp only [hk,ne_eq,not_true_eq_false,if_false,if_true,Bool.and_eq_true,beq_iff_eq]
   by_cases h1:pv=63/\it=36/\fn=112
   ·obtain⟨rfl,rfl,rfl⟩:=h1
    simp
   ·by_cases h2:pv=0/\it=0
    ·obtain⟨rfl,rfl⟩:=h2
     simp
    ·have h1': ¬(it=36/\pv=63/\fn=112):=fun h=>h1 ⟨h.2.1,h.1,h.2.2⟩
     have h2': ¬(it=0/\pv=0):=fun h=>h2 ⟨h.2,h.1⟩
     simp only [h1,h1',h2,h2',if_false,not_false_eq_true,if_true]
  ·simp only [hk,ne_eq,not_false_eq_true,if_true,if_false])
 obtain⟨hp,hhp⟩: ∃b,decide (0<n)=b:=⟨_,rfl⟩
 have HP:=hide hhp
 have HMM:=hide hm
 have HLN:=hide hlen
 have HNN:=hide hnn
 have HLB:=hide hlb
 have HLL:=hide (hl.more hB)
 have NN:=hide (fun w'=>(show Calls Tryd.prog 22 #[.int .i64 nn] w' fun e w''=>e=.returned (.string (strOfNums (PA.BI nn.toNat)))/\Below w'.heap.size w' w'' from(show((nn.toNat:Nat):Int)=nn by omega)▸Ir nn.toNat (by omega) w'))
 have NR:=hide (fun w'=>(show Calls Tryd.prog 22 #[.int .i64 ((m:Int)+1)] w' fun e w''=>e=.returned (.string (strOfNums (PA.BI (m+1))))/\Below w'.heap.size w' w'' from Ir (m+1) (by omega) w'))
 have NC:=hide (fun w'=>(show Calls Tryd.prog 22 #[.int .i64 ((s.col:Int)+1)] w' fun e w''=>e=.returned (.string (strOfNums (PA.BI (s.col+1))))/\Below w'.heap.size w' w'' from Ir (s.col+1) (by omega) w'))
 have ZN:=hide (show(PA.BI nn.toNat).length<=21 from CY 20 _)
 have ZM:=hide (show(PA.BI (m+1)).length<=21 from CY 20 _)
 have ZC:=hide (show(PA.BI (s.col+1)).length<=21 from CY 20 _)
 clear hbs hcp hc0 hd0 hc5 hc6 hc9 hhp hlen hnn hlb hl0 hm hl
 rcases hkd:(kd==4) with _ | _
 ·skip
  go_enter Tryd.func12,Tryd.ntmps12
  go_upto_region 1 with (refine Ah rfl _ rfl rfl ?_;intro g w1 hB1 hb1 hg1)
  have hE:=Box.new w1 38 #[.int .i64 kd,.int .i32 rn,.int .u8 pv,.int .u8 it,.int .u8 fn,.slice Ae n c,.string tx]
  have hB2:=hB1.alloc (.cells #[.int .i64 kd,.int .i32 rn,.int .u8 pv,.int .u8 it,.int .u8 fn,.slice Ae n c,.string tx] 38)
  have b2:=hb1.trans (((Below.refl w1.heap.size w1).alloc (Nat.le_refl _) (.cells #[.int .i64 kd,.int .i32 rn,.int .u8 pv,.int .u8 it,.int .u8 fn,.slice Ae n c,.string tx] 38)).mono hb1.size)
  generalize w1.heap.size=gE at*
  generalize w1.alloc (.cells #[.int .i64 kd,.int .i32 rn,.int .u8 pv,.int .u8 it,.int .u8 fn,.slice Ae n c,.string tx] 38)=w2 at*
  have HB2:=hide hB2
  have LO2:=hide b2
  have HE2:=hide hE
  obtain⟨e0,e1,e2,e3,e4,e5,e6⟩:=Box.seven hE
  clear hB1 hb1 hB2 b2 hE
  go_upto_region 2 with fail
  go_cut [13] from 10 to 13 (fun u wx=>u=.bool hp/\wx=w2)
  case first=>
   go_wp2_with fail
   go_meet
   exact⟨congrArg Value.bool HP.out,rfl⟩
  case rest=>
   obtain⟨rfl,hw⟩:=hcut
   subst hw
   rename World=>w2
   go_upto_if 13 with fail
   go_cut [5] from 13 to 18 (fun u wx=>u=.int .i64 nn/\wx=w2)
   case first=>
    cases hp with
    | false=>
     have h0:n=0:=by have:=of_decide_eq_false HP.out;omega
     have hl0:l= [] :=List.length_eq_zero_iff.1 (HLN.out.trans h0)
     have hz:nn=0:=by rw [<- HNN.out,hl0];rfl
     have HZ:=hide hz
     have hn0:(n:Int)<=0:=by omega
     clear h0 hl0 hz
     go_wp2_with fail
     go_meet
     exact⟨by rw [HZ.out],rfl⟩
    | true=>
     have h0:0<n:=by have:=of_decide_eq_true HP.out;omega
     obtain⟨a0,hla,hnb1,NQ⟩: ∃a,l[0]? =some a/\ -1<=a/\max a 0=nn:=by
      have h1:=HNN.out
      have h2:=HLN.out
      cases l with
      | nil=>simp at h2;omega
      | cons a l=>
       refine⟨a,rfl,(HLB.out a (by simp)).1,?_⟩
       rw [<- h1]
       unfold RP.first
       simp only [List.getD_cons_zero]
       split<;>omega
     obtain⟨ad,u0,rfl,_,hu0,hca⟩:=(HLL.out.below LO2.out).at_ (k:=0) (by omega)
     obtain rfl:u0=.int .i64 a0:=by
      rw [Aj,List.getElem?_map,hla] at hu0
      simpa using hu0.symm
     rw [show ad.add 0=ad from by simp [Addr.add]] at hca
     have hn0:(0:Int)<(n:Int):=by omega
     have KW:=hide NQ
     clear NQ hu0 hla HNN HLN HLB HLL
     rcases Int.lt_trichotomy a0 0 with ha | ha | ha
     ·have hb:a0<=0:=by omega
      go_wp2_with fail
      go_meet
      exact⟨by rw [<- KW.out],rfl⟩
     ·subst ha
      go_wp2_with fail
      go_meet
      exact⟨by rw [<- KW.out];rfl,rfl⟩
     ·have hb:0<=a0:=by omega
      go_wp2_with fail
      go_meet
      exact⟨by rw [<- KW.out],rfl⟩
   case rest=>
    obtain⟨rfl,hw⟩:=hcut
    subst hw
    rename World=>w2
    have hkq:bs= [] :=by rw [HA.out];simp only [show¬kd=4 from fun e=>by rw [e] at hkd;exact absurd hkd (by decide),if_false]
    go_wp2_with fail
    go_ret
    exact⟨by rw [hkq];rfl,LO2.out⟩
 ·obtain rfl:kd=4:=by simpa using hkd
  have HA:=hide (HA.out.trans (if_pos rfl))
  clear hkd
  go_enter Tryd.func12,Tryd.ntmps12
  go_upto_region 1 with (refine Ah rfl _ rfl rfl ?_;intro g w1 hB1 hb1 hg1)
  have hE:=Box.new w1 38 #[.int .i64 4,.int .i32 rn,.int .u8 pv,.int .u8 it,.int .u8 fn,.slice Ae n c,.string tx]
  have hB2:=hB1.alloc (.cells #[.int .i64 4,.int .i32 rn,.int .u8 pv,.int .u8 it,.int .u8 fn,.slice Ae n c,.string tx] 38)
  have b2:=hb1.trans (((Below.refl w1.heap.size w1).alloc (Nat.le_refl _) (.cells #[.int .i64 4,.int .i32 rn,.int .u8 pv,.int .u8 it,.int .u8 fn,.slice Ae n c,.string tx] 38)).mono hb1.size)
  generalize w1.heap.size=gE at*
  generalize w1.alloc (.cells #[.int .i64 4,.int .i32 rn,.int .u8 pv,.int .u8 it,.int .u8 fn,.slice Ae n c,.string tx] 38)=w2 at*
  have HB2:=hide hB2
  have LO2:=hide b2
  have HE2:=hide hE
  obtain⟨e0,e1,e2,e3,e4,e5,e6⟩:=Box.seven hE
  clear hB1 hb1 hB2 b2 hE
  go_upto_region 2 with fail
  go_cut [13] from 10 to 13 (fun u wx=>u=.bool hp/\wx=w2)
  case first=>
   go_wp2_with fail
   go_meet
   exact⟨congrArg Value.bool HP.out,rfl⟩
  case rest=>
   obtain⟨rfl,hw⟩:=hcut
   subst hw
   rename World=>w2
   go_upto_if 13 with fail
   go_cut [5] from 13 to 18 (fun u wx=>u=.int .i64 nn/\wx=w2)
   case first=>
    cases hp with
    | false=>
     have h0:n=0:=by have:=of_decide_eq_false HP.out;omega
     have hl0:l= [] :=List.length_eq_zero_iff.1 (HLN.out.trans h0)
     have hz:nn=0:=by rw [<- HNN.out,hl0];rfl
     have HZ:=hide hz
     have hn0:(n:Int)<=0:=by omega
     clear h0 hl0 hz
     go_wp2_with fail
     go_meet
     exact⟨by rw [HZ.out],rfl⟩
    | true=>
     have h0:0<n:=by have:=of_decide_eq_true HP.out;omega
     obtain⟨a0,hla,hnb1,NQ⟩: ∃a,l[0]? =some a/\ -1<=a/\max a 0=nn:=by
      have h1:=HNN.out
      have h2:=HLN.out
      cases l with
      | nil=>simp at h2;omega
      | cons a l=>
       refine⟨a,rfl,(HLB.out a (by simp)).1,?_⟩
       rw [<- h1]
       unfold RP.first
       simp only [List.getD_cons_zero]
       split<;>omega
     obtain⟨ad,u0,rfl,_,hu0,hca⟩:=(HLL.out.below LO2.out).at_ (k:=0) (by omega)
     obtain rfl:u0=.int .i64 a0:=by
      rw [Aj,List.getElem?_map,hla] at hu0
      simpa using hu0.symm
     rw [show ad.add 0=ad from by simp [Addr.add]] at hca
     have hn0:(0:Int)<(n:Int):=by omega
     have KW:=hide NQ
     clear NQ hu0 hla HNN HLN HLB HLL
     rcases Int.lt_trichotomy a0 0 with ha | ha | ha
     ·have hb:a0<=0:=by omega
      go_wp2_with fail
      go_meet
      exact⟨by rw [<- KW.out],rfl⟩
     ·subst ha
      go_wp2_with fail
      go_meet
      exact⟨by rw [<- KW.out];rfl,rfl⟩
     ·have hb:0<=a0:=by omega
      go_wp2_with fail
      go_meet
      exact⟨by rw [<- KW.out],rfl⟩
   case rest=>
    obtain⟨rfl,hw⟩:=hcut
    subst hw
    rename World=>w2
    go_upto_region 6 with fail
    have k1:w2.cell? ⟨g,3,none⟩=some (.int .i64 (s.row:Nat)):=HB2.out.c3
    have k4:w2.cell? ⟨g,6,none⟩=some (.int .i64 (s.top:Nat)):=HB2.out.c6
    have k11:w2.cell? ⟨g,16,none⟩=some (.bool s.org):=HB2.out.c16
    go_cut [6] from 6 to 24 (fun u wx=>u=.int .i64 ((s.row:Int)+1)/\wx=w2)
    case first=>
     go_wp2_with fail
     go_meet
     exact⟨rfl,rfl⟩
    case rest=>
     obtain⟨rfl,hw⟩:=hcut
     subst hw
     rename World=>w2
     go_upto_region 7 with fail
     go_cut [26] from 25 to 26 (fun u wx=>u=.bool s.org/\wx=w2)
     case first=>
      go_wp2_with fail
      go_meet
      exact⟨rfl,rfl⟩
     case rest=>
      obtain⟨rfl,hw⟩:=hcut
      subst hw
      rename World=>w2
      go_upto_if 26 with fail
      go_cut [6] from 26 to 33 (fun u wx=>u=.int .i64 ((m:Int)+1)/\wx=w2)
      case first=>
       have hm:=HMM.out
       rcases ho:s.org with _ | _
       ·rw [ho] at hm
        have hm2:(s.row:Int)+1=(m:Int)+1:=by simp at hm;omega
        have HM2:=hide hm2
        clear hm hm2 ho
        go_wp2_with fail
        go_meet
        exact⟨by rw [HM2.out],rfl⟩
       ·rw [ho] at hm
        have hm2:max ((s.row:Int)-(s.top:Int)) 0+1=(m:Int)+1:=by simp at hm;omega
        have HM2:=hide hm2
        clear hm hm2 ho
        rcases Int.lt_trichotomy ((s.row:Int)-(s.top:Int)) 0 with ha | ha | ha
        ·have hb:(s.row:Int)-(s.top:Int)<=0:=by omega
         go_wp2_with fail
         go_meet
         exact⟨by rw [<- HM2.out],rfl⟩
        ·have HA:=hide ha
         clear ha
         have hb:(s.row:Int)-(s.top:Int)<=0:=by rw [HA.out];omega
         go_wp2_with fail
         go_meet
         exact⟨by rw [<- HM2.out],rfl⟩
        ·have hb:0<=(s.row:Int)-(s.top:Int):=by omega
         go_wp2_with fail
         go_meet
         exact⟨by rw [<- HM2.out],rfl⟩
      case rest=>
       obtain⟨rfl,hw⟩:=hcut
       subst hw
       rename World=>w2
       go_upto_region 9 with fail
       go_cut [34] from 34 to 47 (fun u wx=>u=.bool cp/\wx=w2)
       case first=>
        rcases q0:(it==36) with _ | _
        ·skip
         go_wp2_with fail
         go_meet
         exact⟨congrArg Value.bool (by rw [<- HCP.out,q0];simp),rfl⟩
        ·skip
         rcases q1:(pv==63) with _ | _
         ·skip
          go_wp2_with fail
          go_meet
          exact⟨congrArg Value.bool (by rw [<- HCP.out,q0,q1];simp),rfl⟩
         ·skip
          rcases q2:(fn==112) with _ | _
          ·skip
           go_wp2_with fail
           go_meet
           exact⟨congrArg Value.bool (by rw [<- HCP.out,q0,q1,q2];simp),rfl⟩
          ·skip
           go_wp2_with fail
           go_meet
           exact⟨congrArg Value.bool (by rw [<- HCP.out,q0,q1,q2];simp),rfl⟩
       case rest=>
        obtain⟨rfl,hw⟩:=hcut
        subst hw
        rename World=>w2
        cases cp with
        | true=>
         have HX:=hide (show bs= [27,91,63] ++PA.BI nn.toNat++ [59] ++ [48+SN.Ad s nn] ++ [36,121] from HA.out.trans (by simp))
         clear HA HC5 HC6 HC9 HCP HD0 HDC NR NC ZM ZC
         have ZL:=hide (DV (PA.BI nn.toNat))
         have k15:w2.cell? ⟨g,15,none⟩=some (.bool s.wrap):=HB2.out.c15
         have k17:w2.cell? ⟨g,17,none⟩=some (.bool s.shown):=HB2.out.c17
         have k18:w2.cell? ⟨g,18,none⟩=some (.bool s.keys):=HB2.out.c18
         generalize PA.BI nn.toNat=D at*
         rcases hn1:(nn==1) with _ | _
         ·skip
          rcases hn6:(nn==6) with _ | _
          ·skip
           rcases hn7:(nn==7) with _ | _
           ·skip
            rcases hn25:(nn==25) with _ | _
            ·skip
             have HBK:True:=trivial
             have HR:=hide (show SN.Ad s nn=0 by unfold SN.Ad;rw [if_neg (by unfold SN.BU;simp at hn1 hn6 hn7 hn25;omega)])
             clear HBK
             go_wp2_with fail
             refine(NN.out _).mono ?_
             rintro e w5 ⟨rfl,b5⟩
             have LO5:=hide (LO2.out.trans (b5.mono LO2.out.size))
             have z1:=ZL.out
             have z2:=ZN.out
             go_wp2_with fail
             go_ret
             exact⟨by rw [HX.out,HR.out];show Ending.returned (.string (strOfNums [27,91,63] ++strOfNums D++strOfNums [59] ++strOfNums [48] ++strOfNums [36,121]))=_;rw [AX,AX,AX,AX];rfl,LO5.out⟩
            ·skip
             have hnk:nn=25:=by simpa using hn25
             have HBK:=hide hnk
             clear hnk
             rcases hb:s.shown with _ | _
             ·skip
              rw [hb] at k17
              have HBB:=hide hb
              have HR:=hide (show SN.Ad s nn=2 by have h:=HBK.out;subst h;unfold SN.Ad SN.BU SN.Dy;simp [hb])
              clear HBK
              go_wp2_with fail
              refine(NN.out _).mono ?_
              rintro e w5 ⟨rfl,b5⟩
              have LO5:=hide (LO2.out.trans (b5.mono LO2.out.size))
              have z1:=ZL.out
              have z2:=ZN.out
              go_wp2_with fail
              go_ret
              exact⟨by rw [HX.out,HR.out];show Ending.returned (.string (strOfNums [27,91,63] ++strOfNums D++strOfNums [59] ++strOfNums [50] ++strOfNums [36,121]))=_;rw [AX,AX,AX,AX];rfl,LO5.out⟩
             ·skip
              rw [hb] at k17
              have HBB:=hide hb
              have HR:=hide (show SN.Ad s nn=1 by have h:=HBK.out;subst h;unfold SN.Ad SN.BU SN.Dy;simp [hb])
              clear HBK
              go_wp2_with fail
              refine(NN.out _).mono ?_
              rintro e w5 ⟨rfl,b5⟩
              have LO5:=hide (LO2.out.trans (b5.mono LO2.out.size))
              have z1:=ZL.out
              have z2:=ZN.out
              go_wp2_with fail
              go_ret
              exact⟨by rw [HX.out,HR.out];show Ending.returned (.string (strOfNums [27,91,63] ++strOfNums D++strOfNums [59] ++strOfNums [49] ++strOfNums [36,121]))=_;rw [AX,AX,AX,AX];rfl,LO5.out⟩
           ·skip
            have hnk:nn=7:=by simpa using hn7
            have HBK:=hide hnk
            clear hnk
            rcases hb:s.wrap with _ | _
            ·skip
             rw [hb] at k15
             have HBB:=hide hb
             have HR:=hide (show SN.Ad s nn=2 by have h:=HBK.out;subst h;unfold SN.Ad SN.BU SN.Dy;simp [hb])
             clear HBK
             go_wp2_with fail
             refine(NN.out _).mono ?_
             rintro e w5 ⟨rfl,b5⟩
             have LO5:=hide (LO2.out.trans (b5.mono LO2.out.size))
             have z1:=ZL.out
             have z2:=ZN.out
             go_wp2_with fail
             go_ret
             exact⟨by rw [HX.out,HR.out];show Ending.returned (.string (strOfNums [27,91,63] ++strOfNums D++strOfNums [59] ++strOfNums [50] ++strOfNums [36,121]))=_;rw [AX,AX,AX,AX];rfl,LO5.out⟩
            ·skip
             rw [hb] at k15
             have HBB:=hide hb
             have HR:=hide (show SN.Ad s nn=1 by have h:=HBK.out;subst h;unfold SN.Ad SN.BU SN.Dy;simp [hb])
             clear HBK
             go_wp2_with fail
             refine(NN.out _).mono ?_
             rintro e w5 ⟨rfl,b5⟩
             have LO5:=hide (LO2.out.trans (b5.mono LO2.out.size))
             have z1:=ZL.out
             have z2:=ZN.out
             go_wp2_with fail
             go_ret
             exact⟨by rw [HX.out,HR.out];show Ending.returned (.string (strOfNums [27,91,63] ++strOfNums D++strOfNums [59] ++strOfNums [49] ++strOfNums [36,121]))=_;rw [AX,AX,AX,AX];rfl,LO5.out⟩
          ·skip
           have hnk:nn=6:=by simpa using hn6
           have HBK:=hide hnk
           clear hnk
           rcases hb:s.org with _ | _
           ·skip
            rw [hb] at k11
            have HBB:=hide hb
            have HR:=hide (show SN.Ad s nn=2 by have h:=HBK.out;subst h;unfold SN.Ad SN.BU SN.Dy;simp [hb])
            clear HBK
            go_wp2_with fail
            refine(NN.out _).mono ?_
            rintro e w5 ⟨rfl,b5⟩
            have LO5:=hide (LO2.out.trans (b5.mono LO2.out.size))
            have z1:=ZL.out
            have z2:=ZN.out
            go_wp2_with fail
            go_ret
            exact⟨by rw [HX.out,HR.out];show Ending.returned (.string (strOfNums [27,91,63] ++strOfNums D++strOfNums [59] ++strOfNums [50] ++strOfNums [36,121]))=_;rw [AX,AX,AX,AX];rfl,LO5.out⟩
           ·skip
            rw [hb] at k11
            have HBB:=hide hb
            have HR:=hide (show SN.Ad s nn=1 by have h:=HBK.out;subst h;unfold SN.Ad SN.BU SN.Dy;simp [hb])
            clear HBK
            go_wp2_with fail
            refine(NN.out _).mono ?_
            rintro e w5 ⟨rfl,b5⟩
            have LO5:=hide (LO2.out.trans (b5.mono LO2.out.size))
            have z1:=ZL.out
            have z2:=ZN.out
            go_wp2_with fail
            go_ret
            exact⟨by rw [HX.out,HR.out];show Ending.returned (.string (strOfNums [27,91,63] ++strOfNums D++strOfNums [59] ++strOfNums [49] ++strOfNums [36,121]))=_;rw [AX,AX,AX,AX];rfl,LO5.out⟩
         ·skip
          have hnk:nn=1:=by simpa using hn1
          have HBK:=hide hnk
          clear hnk
          rcases hb:s.keys with _ | _
          ·skip
           rw [hb] at k18
           have HBB:=hide hb
           have HR:=hide (show SN.Ad s nn=2 by have h:=HBK.out;subst h;unfold SN.Ad SN.BU SN.Dy;simp [hb])
           clear HBK
           go_wp2_with fail
           refine(NN.out _).mono ?_
           rintro e w5 ⟨rfl,b5⟩
           have LO5:=hide (LO2.out.trans (b5.mono LO2.out.size))
           have z1:=ZL.out
           have z2:=ZN.out
           go_wp2_with fail
           go_ret
           exact⟨by rw [HX.out,HR.out];show Ending.returned (.string (strOfNums [27,91,63] ++strOfNums D++strOfNums [59] ++strOfNums [50] ++strOfNums [36,121]))=_;rw [AX,AX,AX,AX];rfl,LO5.out⟩
          ·skip
           rw [hb] at k18
           have HBB:=hide hb
           have HR:=hide (show SN.Ad s nn=1 by have h:=HBK.out;subst h;unfold SN.Ad SN.BU SN.Dy;simp [hb])
           clear HBK
           go_wp2_with fail
           refine(NN.out _).mono ?_
           rintro e w5 ⟨rfl,b5⟩
           have LO5:=hide (LO2.out.trans (b5.mono LO2.out.size))
           have z1:=ZL.out
           have z2:=ZN.out
           go_wp2_with fail
           go_ret
           exact⟨by rw [HX.out,HR.out];show Ending.returned (.string (strOfNums [27,91,63] ++strOfNums D++strOfNums [59] ++strOfNums [49] ++strOfNums [36,121]))=_;rw [AX,AX,AX,AX];rfl,LO5.out⟩
        | false=>
         go_upto_region 27 with fail
         go_cut [75] from 75 to 83 (fun u wx=>u=.bool d0/\wx=w2)
         case first=>
          rcases q0:(it==0) with _ | _
          ·skip
           have q0b:(it !=0)=true:=by simp only [bne,q0];rfl
           have q0c:=q0
           go_wp2_with fail
           go_meet
           exact⟨congrArg Value.bool (by rw [<- HD0.out,q0];simp),rfl⟩
          ·skip
           have q0b:(it !=0)=false:=by simp only [bne,q0];rfl
           have q0c:=q0
           rcases q1:(pv==0) with _ | _
           ·skip
            have q1b:(pv !=0)=true:=by simp only [bne,q1];rfl
            have q1c:=q1
            go_wp2_with fail
            go_meet
            exact⟨congrArg Value.bool (by rw [<- HD0.out,q0,q1];simp),rfl⟩
           ·skip
            have q1b:(pv !=0)=false:=by simp only [bne,q1];rfl
            have q1c:=q1
            go_wp2_with fail
            go_meet
            exact⟨congrArg Value.bool (by rw [<- HD0.out,q0,q1];simp),rfl⟩
         case rest=>
          obtain⟨rfl,hw⟩:=hcut
          subst hw
          rename World=>w2
          cases d0 with
          | true=>
           have HX:=hide (show bs= [] from HA.out.trans (by have:=HDC.out;simp at this;simp [this]))
           clear HA
           go_wp2_with fail
           go_ret
           exact⟨by rw [HX.out];rfl,LO2.out⟩
          | false=>
           go_upto_region 29 with fail
           go_cut [84] from 84 to 91 (fun u wx=>u=.bool c5/\wx=w2)
           case first=>
            rcases q0:(fn==110) with _ | _
            ·skip
             go_wp2_with fail
             go_meet
             exact⟨congrArg Value.bool (by rw [<- HC5.out,q0];simp),rfl⟩
            ·skip
             rcases q1:(nn==5) with _ | _
             ·skip
              go_wp2_with fail
              go_meet
              exact⟨congrArg Value.bool (by rw [<- HC5.out,q0,q1];simp),rfl⟩
             ·skip
              go_wp2_with fail
              go_meet
              exact⟨congrArg Value.bool (by rw [<- HC5.out,q0,q1];simp),rfl⟩
           case rest=>
            obtain⟨rfl,hw⟩:=hcut
            subst hw
            rename World=>w2
            cases c5 with
            | true=>
             have HX:=hide (show bs= [27,91,48,110] from HA.out.trans (by have:=HDC.out;simp at this;simp [this]))
             clear HA
             go_wp2_with fail
             go_ret
             exact⟨by rw [HX.out];rfl,LO2.out⟩
            | false=>
             go_upto_region 31 with fail
             go_cut [92] from 92 to 99 (fun u wx=>u=.bool c6/\wx=w2)
             case first=>
              rcases q0:(fn==110) with _ | _
              ·skip
               go_wp2_with fail
               go_meet
               exact⟨congrArg Value.bool (by rw [<- HC6.out,q0];simp),rfl⟩
              ·skip
               rcases q1:(nn==6) with _ | _
               ·skip
                go_wp2_with fail
                go_meet
                exact⟨congrArg Value.bool (by rw [<- HC6.out,q0,q1];simp),rfl⟩
               ·skip
                go_wp2_with fail
                go_meet
                exact⟨congrArg Value.bool (by rw [<- HC6.out,q0,q1];simp),rfl⟩
             case rest=>
              obtain⟨rfl,hw⟩:=hcut
              subst hw
              rename World=>w2
              cases c6 with
              | true=>
               have HX:=hide (show bs= [27,91] ++PA.BI (m+1)++ [59] ++PA.BI (s.col+1)++ [82] from HA.out.trans (by have:=HDC.out;simp at this;simp [this]))
               clear HA HC9 HC6 HC5 HCP HD0 HDC
               have ZL1:=hide (DV (PA.BI (m+1)))
               have ZL2:=hide (DV (PA.BI (s.col+1)))
               generalize PA.BI (m+1)=DM at*
               generalize PA.BI (s.col+1)=DC at*
               have SL2:=hide (DV (27::91::DM))
               have SL3:=hide (DV (27::91::(DM++ [59])))
               have SL8:=hide (DV (27::91::(DM++59::DC)))
               go_upto_region 32 with fail
               refine Dp (n:=118) [] (fun _=> #[]) [(0,0,0,0,0),(0,0,0,0,0),(0,0,0,0,0),(0,0,0,0,0),(0,0,0,0,0),(0,0,0,0,0),(0,0,0,0,0),(0,0,0,0,0),(0,0,0,0,0),(0,0,0,0,0),(0,0,0,0,0)] (fun j=> [(.int .i64 ((m:Int)+1)),(.string (strOfNums DM)),(.string (strOfNums ([27,91] ++DM))),(.string (strOfNums ([27,91] ++DM++ [59]))),(.pointer (some ⟨g,4,none⟩)),(.int .i64 (s.col:Nat)),(.int .i64 ((s.col:Int)+1)),(.string (strOfNums DC)),(.string (strOfNums ([27,91] ++DM++ [59] ++DC))),(.string (strOfNums ([27,91] ++DM++ [59] ++DC++ [82]))),(.string (strOfNums ([27,91] ++DM++ [59] ++DC++ [82])))].getD j undef) [] (fun _=>0) (by kernel_rfl) (by kernel_rfl) (by kernel_rfl) rfl (by kernel_rfl) (Fv rfl) (fun i j h=>by revert h;exact Fv (p:=fun _=>_) rfl i) (Az.nil _) (fun hGS=>F3 ⟨?_,?_,?_,?_,?_,?_,?_,?_,?_,?_,?_⟩) ?_
               ·intro L a w' hL hsame hsz hJ AA hcl
                have hb:=hJ.kept.toBelow (Nat.le_refl _) (by simp)
                have e0:a.eval (.tmp 6)=(.int .i64 ((m:Int)+1)):=Aa hsame (by kernel_rfl)
                refine Step.val _ rfl rfl (AJ rfl) (.int .i64 ((m:Int)+1)) w' (fun ρ hρ=>?_) (hJ.val hGS hcl hL rfl (Below.refl _ _) _ rfl)
                rw [hρ] at e0
                clear hJ hsame AA hcl hρ hsz hb
                go_simp
               ·intro L a w' hL hsame hsz hJ AA hcl
                have hb:=hJ.kept.toBelow (Nat.le_refl _) (by simp)
                have e0:a.eval (.tmp 100)=(.int .i64 ((m:Int)+1)):=AB (j:=0) (by kernel_rfl) (hJ.valOf (by decide) (AL AA 0 (by kernel_rfl)) rfl rfl)
                refine Step.call _ rfl rfl (AJ rfl) 22 #[.int .i64 ((m:Int)+1)] (fun ρ hρ=>?_) ?_
                ·skip
                 rw [hρ] at e0
                 have ef:ρ (.func 22)=.func (.func 22) #[] #[] :=(hρ _).symm
                 clear hJ hsame AA hcl hρ hsz hb
                 go_simp
                ·refine(NR.out w').mono ?_
                 rintro e w2 ⟨rfl,bb⟩
                 exact⟨_,rfl,hJ.val hGS hcl hL rfl bb _ rfl⟩
               ·intro L a w' hL hsame hsz hJ AA hcl
                have hb:=hJ.kept.toBelow (Nat.le_refl _) (by simp)
                have e1:a.eval (.tmp 101)=(.string (strOfNums DM)):=AB (j:=1) (by kernel_rfl) (hJ.valOf (by decide) (AL AA 1 (by kernel_rfl)) rfl rfl)
                refine Step.val _ rfl rfl (AJ rfl) (.string (strOfNums ([27,91] ++DM))) w' (fun ρ hρ=>?_) (hJ.val hGS hcl hL rfl (Below.refl _ _) _ rfl)
                rw [hρ] at e1
                have ec0:ρ (.const (.string {data:= #[27,91]}))=(.string {data:= #[27,91]}):=(hρ _).symm
                clear hJ hsame AA hcl hρ hsz hb
                go_simp
                rw [if_neg (by
                 have z1:=ZL1.out
                 have z2:=ZL2.out
                 have z3:=ZM.out
                 have z4:=ZC.out
                 omega)]
                refine congrArg (fun z=>Result.ok (Next.value (Value.string z)) w') ?_
                exact(AX ([27,91]) (DM)).trans (congrArg strOfNums (by simp))
               ·intro L a w' hL hsame hsz hJ AA hcl
                have hb:=hJ.kept.toBelow (Nat.le_refl _) (by simp)
                have e0:a.eval (.tmp 102)=(.string (strOfNums ([27,91] ++DM))):=AB (j:=2) (by kernel_rfl) (hJ.valOf (by decide) (AL AA 2 (by kernel_rfl)) rfl rfl)
                refine Step.val _ rfl rfl (AJ rfl) (.string (strOfNums ([27,91] ++DM++ [59]))) w' (fun ρ hρ=>?_) (hJ.val hGS hcl hL rfl (Below.refl _ _) _ rfl)
                rw [hρ] at e0
                have ec0:ρ (.const (.string {data:= #[59]}))=(.string {data:= #[59]}):=(hρ _).symm
                clear hJ hsame AA hcl hρ hsz hb
                go_simp
                rw [if_neg (by
                 have z1:=ZL1.out
                 have z2:=ZL2.out
                 have z3:=ZM.out
                 have z4:=ZC.out
                 have ySL2:=SL2.out
                 simp only [List.length_cons] at ySL2
                 omega)]
                refine congrArg (fun z=>Result.ok (Next.value (Value.string z)) w') ?_
                exact(AX (27::91::DM) ([59])).trans (congrArg strOfNums (by simp))
               ·intro L a w' hL hsame hsz hJ AA hcl
                have hb:=hJ.kept.toBelow (Nat.le_refl _) (by simp)
                have e0:a.eval (.tmp 2)=(.pointer (some ⟨g,0,none⟩)):=Aa hsame (by kernel_rfl)
                refine Step.val _ rfl rfl (AJ rfl) (.pointer (some ⟨g,4,none⟩)) w' (fun ρ hρ=>?_) (hJ.val hGS hcl hL rfl (Below.refl _ _) _ rfl)
                rw [hρ] at e0
                clear hJ hsame AA hcl hρ hsz hb
                go_simp
               ·intro L a w' hL hsame hsz hJ AA hcl
                have hb:=hJ.kept.toBelow (Nat.le_refl _) (by simp)
                have e0:a.eval (.tmp 104)=(.pointer (some ⟨g,4,none⟩)):=AB (j:=4) (by kernel_rfl) (hJ.valOf (by decide) (AL AA 4 (by kernel_rfl)) rfl rfl)
                have hx:=hJ.BJ ((show Box w2 g 32 (scA x s) from HB2.out)) (by simp)
                have q0:w'.cell? ⟨g,4,none⟩=some (.int .i64 (s.col:Nat)):=hx.cell 4
                refine Step.val _ rfl rfl (AJ rfl) (.int .i64 (s.col:Nat)) w' (fun ρ hρ=>?_) (hJ.val hGS hcl hL rfl (Below.refl _ _) _ rfl)
                clear hx
                rw [hρ] at e0
                clear hJ hsame AA hcl hρ hsz hb
                go_simp
               ·intro L a w' hL hsame hsz hJ AA hcl
                have hb:=hJ.kept.toBelow (Nat.le_refl _) (by simp)
                have e0:a.eval (.tmp 105)=(.int .i64 (s.col:Nat)):=AB (j:=5) (by kernel_rfl) (hJ.valOf (by decide) (AL AA 5 (by kernel_rfl)) rfl rfl)
                refine Step.val _ rfl rfl (AJ rfl) (.int .i64 ((s.col:Int)+1)) w' (fun ρ hρ=>?_) (hJ.val hGS hcl hL rfl (Below.refl _ _) _ rfl)
                rw [hρ] at e0
                have ec0:ρ (.const (.int .i64 1))=(.int .i64 1):=(hρ _).symm
                clear hJ hsame AA hcl hρ hsz hb
                go_simp
                all_goals (exact IntWalk.i64_in _ (by omega))
               ·intro L a w' hL hsame hsz hJ AA hcl
                have hb:=hJ.kept.toBelow (Nat.le_refl _) (by simp)
                have e0:a.eval (.tmp 106)=(.int .i64 ((s.col:Int)+1)):=AB (j:=6) (by kernel_rfl) (hJ.valOf (by decide) (AL AA 6 (by kernel_rfl)) rfl rfl)
                refine Step.call _ rfl rfl (AJ rfl) 22 #[.int .i64 ((s.col:Int)+1)] (fun ρ hρ=>?_) ?_
                ·skip
                 rw [hρ] at e0
                 have ef:ρ (.func 22)=.func (.func 22) #[] #[] :=(hρ _).symm
                 clear hJ hsame AA hcl hρ hsz hb
                 go_simp
                ·refine(NC.out w').mono ?_
                 rintro e w2 ⟨rfl,bb⟩
                 exact⟨_,rfl,hJ.val hGS hcl hL rfl bb _ rfl⟩
               ·intro L a w' hL hsame hsz hJ AA hcl
                have hb:=hJ.kept.toBelow (Nat.le_refl _) (by simp)
                have e0:a.eval (.tmp 103)=(.string (strOfNums ([27,91] ++DM++ [59]))):=AB (j:=3) (by kernel_rfl) (hJ.valOf (by decide) (AL AA 3 (by kernel_rfl)) rfl rfl)
                have e1:a.eval (.tmp 107)=(.string (strOfNums DC)):=AB (j:=7) (by kernel_rfl) (hJ.valOf (by decide) (AL AA 7 (by kernel_rfl)) rfl rfl)
                refine Step.val _ rfl rfl (AJ rfl) (.string (strOfNums ([27,91] ++DM++ [59] ++DC))) w' (fun ρ hρ=>?_) (hJ.val hGS hcl hL rfl (Below.refl _ _) _ rfl)
                rw [hρ] at e0 e1
                clear hJ hsame AA hcl hρ hsz hb
                go_simp
                rw [if_neg (by
                 have z1:=ZL1.out
                 have z2:=ZL2.out
                 have z3:=ZM.out
                 have z4:=ZC.out
                 have ySL3:=SL3.out
                 simp only [List.length_append,List.length_cons,List.length_nil] at ySL3
                 omega)]
                refine congrArg (fun z=>Result.ok (Next.value (Value.string z)) w') ?_
                exact(AX (27::91::(DM++ [59])) (DC)).trans (congrArg strOfNums (by simp))
               ·intro L a w' hL hsame hsz hJ AA hcl
                have hb:=hJ.kept.toBelow (Nat.le_refl _) (by simp)
                have e0:a.eval (.tmp 108)=(.string (strOfNums ([27,91] ++DM++ [59] ++DC))):=AB (j:=8) (by kernel_rfl) (hJ.valOf (by decide) (AL AA 8 (by kernel_rfl)) rfl rfl)
                refine Step.val _ rfl rfl (AJ rfl) (.string (strOfNums ([27,91] ++DM++ [59] ++DC++ [82]))) w' (fun ρ hρ=>?_) (hJ.val hGS hcl hL rfl (Below.refl _ _) _ rfl)
                rw [hρ] at e0
                have ec0:ρ (.const (.string {data:= #[82]}))=(.string {data:= #[82]}):=(hρ _).symm
                clear hJ hsame AA hcl hρ hsz hb
                go_simp
                rw [if_neg (by
                 have z1:=ZL1.out
                 have z2:=ZL2.out
                 have z3:=ZM.out
                 have z4:=ZC.out
                 have ySL8:=SL8.out
                 simp only [List.length_append,List.length_cons] at ySL8
                 omega)]
                refine congrArg (fun z=>Result.ok (Next.value (Value.string z)) w') ?_
                exact(AX (27::91::(DM++59::DC)) ([82])).trans (congrArg strOfNums (by simp))
               ·intro L a w' hL hsame hsz hJ AA hcl
                have hb:=hJ.kept.toBelow (Nat.le_refl _) (by simp)
                have e0:a.eval (.tmp 109)=(.string (strOfNums ([27,91] ++DM++ [59] ++DC++ [82]))):=AB (j:=9) (by kernel_rfl) (hJ.valOf (by decide) (AL AA 9 (by kernel_rfl)) rfl rfl)
                refine Step.val _ rfl rfl (AJ rfl) (.string (strOfNums ([27,91] ++DM++ [59] ++DC++ [82]))) w' (fun ρ hρ=>?_) (hJ.val hGS hcl hL rfl (Below.refl _ _) _ rfl)
                rw [hρ] at e0
                clear hJ hsame AA hcl hρ hsz hb
                go_simp
               ·intro u w' hF
                change Exit.then _ _ Exit.normal (Act.put (Act.put (Act.put (Act.put (Act.put (Act.put (Act.put (Act.put (Act.put (Act.put (Act.put (BH _ u 0 _) (some 100) (u 0)) (some 101) (u 1)) (some 102) (u 2)) (some 103) (u 3)) (some 104) (u 4)) (some 105) (u 5)) (some 106) (u 6)) (some 107) (u 7)) (some 108) (u 8)) (some 109) (u 9)) (some 4) (u 10)) _
                simp only [BH]
                obtain f10:u 10=.string (strOfNums ([27,91] ++DM++ [59] ++DC++ [82])):=hF.O4 (j:=10) (by decide) rfl rfl
                have hk:=hF.kept.toBelow (Nat.le_refl _) (by simp)
                clear hF
                generalize u 0=y0
                generalize u 1=y1
                generalize u 2=y2
                generalize u 3=y3
                generalize u 4=y4
                generalize u 5=y5
                generalize u 6=y6
                generalize u 7=y7
                generalize u 8=y8
                generalize u 9=y9
                generalize u 10=y10 at f10⊢
                subst f10
                go_simp
                go_step
                go_wp2_with fail
                go_ret
                exact⟨by rw [HX.out];first | rfl | (show Ending.returned (.string (strOfNums _))=_;simp),LO2.out.trans (hk.mono LO2.out.size)⟩
              | false=>
               go_upto_region 33 with fail
               go_cut [110] from 110 to 117 (fun u wx=>u=.bool c9/\wx=w2)
               case first=>
                rcases q0:(fn==99) with _ | _
                ·skip
                 go_wp2_with fail
                 go_meet
                 exact⟨congrArg Value.bool (by rw [<- HC9.out,q0];simp),rfl⟩
                ·skip
                 rcases q1:(nn==0) with _ | _
                 ·skip
                  go_wp2_with fail
                  go_meet
                  exact⟨congrArg Value.bool (by rw [<- HC9.out,q0,q1];simp),rfl⟩
                 ·skip
                  go_wp2_with fail
                  go_meet
                  exact⟨congrArg Value.bool (by rw [<- HC9.out,q0,q1];simp),rfl⟩
               case rest=>
                obtain⟨rfl,hw⟩:=hcut
                subst hw
                rename World=>w2
                cases c9 with
                | true=>
                 have HX:=hide (show bs= [27,91,63,54,99] from HA.out.trans (by have:=HDC.out;simp at this;simp [this]))
                 clear HA
                 go_wp2_with fail
                 go_ret
                 exact⟨by rw [HX.out];rfl,LO2.out⟩
                | false=>
                 have HX:=hide (show bs= [] from HA.out.trans (by have:=HDC.out;simp at this;simp [this]))
                 clear HA
                 go_wp2_with fail
                 go_ret
                 exact⟨by rw [HX.out];rfl,LO2.out⟩
end Go.Proofs.YtoaabebgmdbjeaaDoor
