/- ReplyRuns: chapter 15's runs. (written by tools/genreplyruns.py) -/
import Derived.Test.YtoaabebgmdbjeaaDoorRa12
set_option maxRecDepth 100000
set_option maxHeartbeats 16000000
set_option linter.unusedVariables false
namespace Go.Proofs.YtoaabebgmdbjeaaDoor
open Go Go.RowKit
def EvR (ev:PA.Ev) (v:Value) (w:World):Prop:= ∃A c,v=.agg #[.int .i64 ev.kind,.int .i32 0,.int .u8 ev.priv,.int .u8 ev.inter,.int .u8 ev.final,.slice A ev.params.length c,.string {data:= #[]}] /\ev.params.length<=c/\Seen w w.heap.size A ev.params.length (Aj ev.params)
theorem EvR.stays {ev:PA.Ev}:C9 [] (EvR ev):=⟨fun v w w' ⟨A,c,h1,h2,h3⟩ hb=>⟨A,c,h1,h2,(h3.below hb).more hb.size⟩,fun v w w' g' T' cs' h hb hT hk=>by simp at hT⟩
def ByR (bs:List Int) (m:Nat) (v:Value) (w:World):Prop:= ∃A c,v=.slice A m c/\Seen w w.heap.size A m (u8s bs)
theorem ByR.stays {bs:List Int} {m:Nat}:C9 [] (ByR bs m):=⟨fun v w w' ⟨A,c,h1,h3⟩ hb=>⟨A,c,h1,(h3.below hb).more hb.size⟩,fun v w w' g' T' cs' h hb hT hk=>by simp at hT⟩
theorem Kt (f x:Int) (hx:x≠ -1) (w':World) (g:Nat) (hb:Box w' g 3 #[.int .i64 x]):Calls Tryd.prog 7 #[.int .u8 f,.slice (some ⟨g,0,none⟩) 1 1] w' fun e w2=> ∃A' c',e=.returned (.agg #[.int .i64 4,.int .i32 0,.int .u8 0,.int .u8 0,.int .u8 f,.slice A' 1 c',.string ⟨#[]⟩])/\1<=c'/\Co w'.heap.size w2 A' 1 (Aj [x])/\Below w'.heap.size w' w2:=
 FI (f:=f) (A:=some ⟨g,0,none⟩) (n:=1) (c:=1) (l:= [x]) (w:=w') [x] 1 (by unfold Ac;rw [if_neg (by simpa using hx)]) rfl (Seen.Bq hb rfl rfl hb.lt) (by omega)
theorem Ec (w:World) (hM:EL w) (hT:FY w):Calls Tryd.prog 3 #[] w fun e w'=>e=.returned (.bool true)/\Below w.heap.size w w':=by
 have NW:=hide (fun w'=>OZ 5 9 5 9 rfl rfl (by omega) (by omega) w')
 obtain⟨F,hF⟩: ∃F,((SN.full 5 9).u3 2).u4 4=F:=⟨_,rfl⟩
 have FB:F.row<=60000/\F.col<=60000/\F.top<=60000:=by subst hF;decide
 have t6:RP.said F 4 0 0 110 [6] = [27,91,51,59,53,82] :=by subst hF;kernel_rfl
 have t25:RP.said F 4 63 36 112 [25] = [27,91,63,50,53,59,49,36,121] :=by subst hF;kernel_rfl
 have t7:RP.said F 4 0 0 110 [7] = [] :=by subst hF;kernel_rfl
 have CT:=fun (k p i f:Int) (l:List Int) (n:Nat) (hn:l.length=n) (hlb: ∀x∈l, -1<=x/\x<=65535) (bs:List Int) (m:Nat) (hb:RP.said F k p i f l=bs) (hm:bs.length=m)=>hide (fun (w':World) A c A' c' (hw:Below w.heap.size w w') (hl:Seen w' w'.heap.size A' n (Aj l)) (h:IsG w' F.g (gv F.g.rows F.g.AO (.slice A (F.g.rows*F.g.AO) c)))=>
  M6 F (.slice A (F.g.rows*F.g.AO) c) k 0 p i f A' n c' w'.heap.size ⟨#[]⟩ l w' bs m hb hm FB.1 FB.2.1 FB.2.2 rfl hl (Nat.le_refl _) hlb (hM.keep hw) (hT.keep hw) ⟨_,rfl,h⟩)
 have CT6:=CT 4 0 0 110 [6] 1 rfl (by decide) _ 6 t6 rfl
 have CT25:=CT 4 63 36 112 [25] 1 rfl (by decide) _ 9 t25 rfl
 have CT7:=CT 4 0 0 110 [7] 1 rfl (by decide) _ 0 t7 rfl
 have CA:=hide (fun (w':World) A' c' (hw:Below w.heap.size w w') (hl:Seen w' w'.heap.size A' 0 (Aj []))=>Jm 4 0 0 0 99 A' 0 c' w'.heap.size ⟨#[]⟩ [] w' true (by decide) hl (Nat.le_refl _) (by simp) (hM.keep hw))
 have C0:=hide (fun (w':World)=>FI (f:=99) (A:=none) (n:=0) (c:=0) (l:= []) (w:=w') [] 0 (by unfold Ac;rw [if_neg (by simp)]) rfl (Seen.Dz _ _ _) (by omega))
 have C6:=hide (Kt 110 6 (by decide))
 have C7:=hide (Kt 110 7 (by decide))
 have S6:=hide (show strOfNums [27,91,51,59,53,82] ={data:= #[27,91,51,59,53,82]} from rfl)
 have S25:=hide (show strOfNums [27,91,63,50,53,59,49,36,121] ={data:= #[27,91,63,50,53,59,49,36,121]} from rfl)
 have HF:=hide hF
 have hFg:F.g=(SN.full 5 9).g:=by subst hF;rfl
 have HFG:=hide hFg
 have LO0:=hide (Below.refl w.heap.size w)
 clear hM hT hF t6 t25 t7 CT hFg
 go_enter Tryd.func3,Tryd.ntmps3
 go_wp2_with fail
 refine(NW.out _).mono ?_
 rintro e wb1 ⟨v1,rfl,⟨x1,rfl,hg1⟩,hb1⟩
 have LO1:=hide (LO0.out.trans (hb1.mono LO0.out.size))
 clear LO0 hb1
 obtain⟨A1,c1,rfl⟩:=Dk hg1
 have M7:=hide hg1
 clear hg1
 go_upto_region 2 with (first | (refine Bc rfl rfl ?_;intro gs wags csgs KR Ph Jo Pj) | (refine BO KR Ph rfl _ _ rfl rfl rfl rfl ?_;intro Ip M8 Jp Pk))
 have Qj:w.heap.size<=gs:=by have:=LO1.out.size;omega
 have M9:=hide (M7.out.low Jo)
 have LO2:=hide (LO1.out.trans (Jo.mono LO1.out.size))
 clear M7 LO1 Jo
 have NA:=hide (M9.out.kept KR (by decide) Jp)
 have LO3:=hide (LO2.out.trans (Jp.toBelow LO2.out.size (fun k hh=>by simp at hh;omega)))
 clear M9 LO2
 have Gn:=hide M8
 clear M8 Jp KR Pj
 clear Pk
 go_simp
 have Pm:=Gn.out.fz 3
 have Po:=Gn.out.fz 4
 have Pp:=(show _=some (.int .i64 (0:Nat):Value) from Gn.out.c3)
 have Pq:=(show _=some (.int .i64 (0:Nat):Value) from Gn.out.c4)
 go_upto_region 3 with fail
 have hkp:=(((Kept.refl [some gs] Ip).setCell (p:=⟨gs,3,none⟩) (From.mem (by simp)) (.int .i64 2)).setCell (p:=⟨gs,4,none⟩) (From.mem (by simp)) (.int .i64 4))
 have hsp:AY ((Ip.setCell ⟨gs,3,none⟩ (.int .i64 2)).setCell ⟨gs,4,none⟩ (.int .i64 4)) gs _ _:=((Gn.out.FN 2).set4 4)
 generalize ((Ip.setCell ⟨gs,3,none⟩ (.int .i64 2)).setCell ⟨gs,4,none⟩ (.int .i64 4))=w3 at hkp hsp⊢
 have KT:=hide (NA.out.kept Gn.out (by decide) hkp)
 have LO4:=hide (LO3.out.trans (hkp.toBelow LO3.out.size (fun k hh=>by simp at hh;omega)))
 clear NA LO3
 have Iq:=hide hsp
 clear hsp hkp Gn
 clear Pm Po Pp Pq
 simp only [HF.out] at*
 rw [<- HFG.out] at KT Iq
 refine Dp (n:=31) [] (fun _=> #[]) [(0,0,0,0,0),(1,0,0,0,0),(1,0,0,0,0),(1,0,0,0,0),(0,0,0,0,0),(0,0,0,0,0),(0,0,0,0,0),(0,0,0,0,0),(1,0,0,0,0),(1,0,0,0,0),(1,0,0,0,0),(0,0,0,0,0),(0,0,0,0,0),(0,0,0,0,0),(0,0,0,0,0),(1,0,0,0,0),(0,0,0,0,0),(0,0,0,0,0),(0,0,0,0,0),(0,0,0,0,0),(1,0,0,0,0),(1,0,0,0,0),(1,0,0,0,0),(0,0,0,0,0),(0,0,0,0,0),(0,0,0,0,0),(0,0,0,0,0)] (fun j=> [(.agg (scA (.slice A1 (F.g.rows*F.g.AO) c1) F)),undef,undef,undef,(.string {data:= #[27,91,51,59,53,82]}),(.bool true),(.bool true),(.agg (scA (.slice A1 (F.g.rows*F.g.AO) c1) F)),undef,undef,undef,(.string {data:= #[27,91,63,50,53,59,49,36,121]}),(.bool true),(.bool true),(.bool true),undef,(.bool true),(.bool true),(.bool true),(.agg (scA (.slice A1 (F.g.rows*F.g.AO) c1) F)),undef,undef,undef,(.int .i64 0),(.bool true),(.bool true),(.bool true)].getD j undef) [none,some (El 3 1 #[.int .i64 6]),some (EvR ⟨4,0,0,0,110, [6], []⟩),some (ByR [27,91,51,59,53,82] 6),none,none,none,none,some (El 3 1 #[.int .i64 25]),some (EvR ⟨4,0,63,36,112, [25], []⟩),some (ByR [27,91,63,50,53,59,49,36,121] 9),none,none,none,none,some (EvR ⟨4,0,0,0,99, [], []⟩),none,none,none,none,some (El 3 1 #[.int .i64 7]),some (EvR ⟨4,0,0,0,110, [7], []⟩),some (ByR [] 0)] (fun _=>0) (by kernel_rfl) (by kernel_rfl) (by kernel_rfl) rfl (by kernel_rfl) (Fv rfl) (fun i j h=>by revert h;exact Fv (p:=fun _=>_) rfl i) (Az.none_ (Az.some_ (El.stays (by kernel_rfl)) (Az.some_ (EvR.stays) (Az.some_ (ByR.stays) (Az.none_ (Az.none_ (Az.none_ (Az.none_ (Az.some_ (El.stays (by kernel_rfl)) (Az.some_ (EvR.stays) (Az.some_ (ByR.stays) (Az.none_ (Az.none_ (Az.none_ (Az.none_ (Az.some_ (EvR.stays) (Az.none_ (Az.none_ (Az.none_ (Az.none_ (Az.some_ (El.stays (by kernel_rfl)) (Az.some_ (EvR.stays) (Az.some_ (ByR.stays) (Az.nil _)))))))))))))))))))))))) (fun hGS=>OC ⟨?_,?_,?_,?_,?_,?_,?_,?_,?_,?_,?_,?_,?_,?_,?_,?_,?_,?_,?_,?_,?_,?_,?_,?_,?_,?_,?_⟩) ?_
 ·intro L a w' hL hsame hsz hJ AA hcl
  have hb:=hJ.kept.toBelow (Nat.le_refl _) (by simp)
  have e0:a.eval (.tmp 1)=(.pointer (some ⟨gs,0,none⟩)):=Aa hsame (by kernel_rfl)
  have hx:=hJ.BJ ((show Box w3 gs 32 (scA (.slice A1 (F.g.rows*F.g.AO) c1) F) from Iq.out)) (by simp)
  exact Step.val _ rfl rfl (AJ rfl) (.agg (scA (.slice A1 (F.g.rows*F.g.AO) c1) F)) w' (fun ρ hρ=>DZ hx rfl ρ _ rfl ((hρ _).symm.trans e0)) (hJ.val hGS hcl hL rfl (Below.refl _ _) _ rfl)
 ·intro L a w' hL hsame hsz hJ AA hcl
  have hb:=hJ.kept.toBelow (Nat.le_refl _) (by simp)
  refine Step.val _ rfl rfl (AJ rfl) (.slice (some ⟨w'.heap.size,0,none⟩) 1 1) (w'.alloc (.cells #[.int .i64 6] 3)) (fun ρ hρ=>?_) (hJ.pred hGS hcl hL rfl ((Below.refl _ _).alloc (Nat.le_refl _) _) _ (⟨_,rfl,Box.new w' _ _⟩))
  have ec0:ρ (.const (.int .i64 6))=(.int .i64 6):=(hρ _).symm
  clear hJ hsame AA hcl hρ hsz hb
  go_simp
 ·intro L a w' hL hsame hsz hJ AA hcl
  have hb:=hJ.kept.toBelow (Nat.le_refl _) (by simp)
  obtain⟨g1,hv1,hs1⟩:=(show(El 3 1 #[.int .i64 6]) (valOf _ 1 a) w' from hJ.Ci (by decide) (AL AA 1 (by kernel_rfl)) rfl)
  have e1:a.eval (.tmp 6)=.slice (some ⟨g1,0,none⟩) 1 1:=AB (j:=1) (by kernel_rfl) hv1
  refine Step.call _ rfl rfl (AJ rfl) 7 #[.int .u8 110,.slice (some ⟨g1,0,none⟩) 1 1] (fun ρ hρ=>?_) ?_
  ·skip
   rw [hρ] at e1
   have ec0:ρ (.const (.int .u8 110))=(.int .u8 110):=(hρ _).symm
   have ef:ρ (.func 7)=.func (.func 7) #[] #[] :=(hρ _).symm
   clear hJ hsame AA hcl hρ hsz hb
   go_simp
  ·refine(C6.out w' _ hs1).mono ?_
   rintro e w2 ⟨A,c,rfl,hc,hs,bb⟩
   exact⟨_,rfl,hJ.pred hGS hcl hL rfl bb _ ⟨A,c,rfl,hc,hs.1⟩⟩
 ·intro L a w' hL hsame hsz hJ AA hcl
  have hb:=hJ.kept.toBelow (Nat.le_refl _) (by simp)
  have e0:a.eval (.tmp 5)=(.agg (scA (.slice A1 (F.g.rows*F.g.AO) c1) F)):=AB (j:=0) (by kernel_rfl) (hJ.valOf (by decide) (AL AA 0 (by kernel_rfl)) rfl rfl)
  obtain⟨A2',c2',hv2,hc2,hs2⟩:=(show(EvR ⟨4,0,0,0,110, [6], []⟩) (valOf _ 2 a) w' from hJ.Ci (by decide) (AL AA 2 (by kernel_rfl)) rfl)
  have e1:a.eval (.tmp 7)=.agg #[.int .i64 4,.int .i32 0,.int .u8 0,.int .u8 0,.int .u8 110,.slice A2' 1 c2',.string {data:= #[]}] :=AB (j:=2) (by kernel_rfl) hv2
  refine Step.call _ rfl rfl (AJ rfl) 6 #[.agg (scA (.slice A1 (F.g.rows*F.g.AO) c1) F),.agg #[.int .i64 4,.int .i32 0,.int .u8 0,.int .u8 0,.int .u8 110,.slice A2' 1 c2',.string {data:= #[]}]] (fun ρ hρ=>?_) ?_
  ·skip
   rw [hρ] at e0 e1
   have ef:ρ (.func 6)=.func (.func 6) #[] #[] :=(hρ _).symm
   clear hJ hsame AA hcl hρ hsz hb
   go_simp
  ·refine(CT6.out w' _ _ _ _ (LO4.out.trans (hb.mono LO4.out.size)) hs2 (KT.out.low hb)).mono ?_
   rintro e w2 ⟨A,c,rfl,hc,hs,bb⟩
   exact⟨_,rfl,hJ.pred hGS hcl hL rfl bb _ ⟨A,c,rfl,hs⟩⟩
 ·intro L a w' hL hsame hsz hJ AA hcl
  have hb:=hJ.kept.toBelow (Nat.le_refl _) (by simp)
  obtain⟨A3',c3',hv3,hs3⟩:=(show(ByR [27,91,51,59,53,82] 6) (valOf _ 3 a) w' from hJ.Ci (by decide) (AL AA 3 (by kernel_rfl)) rfl)
  have e0:a.eval (.tmp 8)=.slice A3' 6 c3':=AB (j:=3) (by kernel_rfl) hv3
  refine Step.val _ rfl rfl (AJ rfl) (.string {data:= #[27,91,51,59,53,82]}) w' (fun ρ hρ=>?_) (hJ.val hGS hcl hL rfl (Below.refl _ _) _ rfl)
  rw [hρ] at e0
  clear hJ hsame AA hcl hρ hsz hb
  have cv:=Cc (c:=c3') hs3
  rw [S6.out] at cv
  go_simp
 ·intro L a w' hL hsame hsz hJ AA hcl
  have hb:=hJ.kept.toBelow (Nat.le_refl _) (by simp)
  have e0:a.eval (.tmp 9)=(.string {data:= #[27,91,51,59,53,82]}):=AB (j:=4) (by kernel_rfl) (hJ.valOf (by decide) (AL AA 4 (by kernel_rfl)) rfl rfl)
  refine Step.val _ rfl rfl (AJ rfl) (.bool true) w' (fun ρ hρ=>?_) (hJ.val hGS hcl hL rfl (Below.refl _ _) _ rfl)
  rw [hρ] at e0
  have ec0:ρ (.const (.string {data:= #[27,91,51,59,53,82]}))=(.string {data:= #[27,91,51,59,53,82]}):=(hρ _).symm
  clear hJ hsame AA hcl hρ hsz hb
  go_simp
 ·intro L a w' hL hsame hsz hJ AA hcl
  have hb:=hJ.kept.toBelow (Nat.le_refl _) (by simp)
  have e0:a.eval (.tmp 10)=(.bool true):=AB (j:=5) (by kernel_rfl) (hJ.valOf (by decide) (AL AA 5 (by kernel_rfl)) rfl rfl)
  refine Step.val _ rfl rfl (AJ rfl) (.bool true) w' (fun ρ hρ=>?_) (hJ.val hGS hcl hL rfl (Below.refl _ _) _ rfl)
  rw [hρ] at e0
  clear hJ hsame AA hcl hρ hsz hb
  go_simp
 ·intro L a w' hL hsame hsz hJ AA hcl
  have gd:valOf _ 6 a=.bool true:=hJ.valOf (by decide) (AL AA 6 (by kernel_rfl)) rfl rfl
  have hb:=hJ.kept.toBelow (Nat.le_refl _) (by simp)
  have e0:a.eval (.tmp 1)=(.pointer (some ⟨gs,0,none⟩)):=Aa hsame (by kernel_rfl)
  have hx:=hJ.BJ ((show Box w3 gs 32 (scA (.slice A1 (F.g.rows*F.g.AO) c1) F) from Iq.out)) (by simp)
  exact Step.val _ rfl rfl (Am (g:=6) (b:=true) rfl gd) (.agg (scA (.slice A1 (F.g.rows*F.g.AO) c1) F)) w' (fun ρ hρ=>DZ hx rfl ρ _ rfl ((hρ _).symm.trans e0)) (hJ.val hGS hcl hL rfl (Below.refl _ _) _ rfl)
 ·intro L a w' hL hsame hsz hJ AA hcl
  have gd:valOf _ 6 a=.bool true:=hJ.valOf (by decide) (AL AA 6 (by kernel_rfl)) rfl rfl
  have hb:=hJ.kept.toBelow (Nat.le_refl _) (by simp)
  refine Step.val _ rfl rfl (Am (g:=6) (b:=true) rfl gd) (.slice (some ⟨w'.heap.size,0,none⟩) 1 1) (w'.alloc (.cells #[.int .i64 25] 3)) (fun ρ hρ=>?_) (hJ.pred hGS hcl hL rfl ((Below.refl _ _).alloc (Nat.le_refl _) _) _ (⟨_,rfl,Box.new w' _ _⟩))
  have ec0:ρ (.const (.int .i64 25))=(.int .i64 25):=(hρ _).symm
  clear hJ hsame AA hcl hρ hsz hb gd
  go_simp
 ·intro L a w' hL hsame hsz hJ AA hcl
  have gd:valOf _ 6 a=.bool true:=hJ.valOf (by decide) (AL AA 6 (by kernel_rfl)) rfl rfl
  have hb:=hJ.kept.toBelow (Nat.le_refl _) (by simp)
  obtain⟨g8,hv8,hs8⟩:=(show(El 3 1 #[.int .i64 25]) (valOf _ 8 a) w' from hJ.Ci (by decide) (AL AA 8 (by kernel_rfl)) rfl)
  have e4:a.eval (.tmp 13)=.slice (some ⟨g8,0,none⟩) 1 1:=AB (j:=8) (by kernel_rfl) hv8
  refine Step.val _ rfl rfl (Am (g:=6) (b:=true) rfl gd) (.agg #[.int .i64 4,.int .i32 0,.int .u8 63,.int .u8 36,.int .u8 112,.slice (some ⟨g8,0,none⟩) 1 1,.string {data:= #[]}]) (w') (fun ρ hρ=>?_) (hJ.pred hGS hcl hL rfl (Below.refl _ _) _ (⟨_,1,rfl,Nat.le_refl _,Seen.Bq hs8 rfl rfl hs8.lt⟩))
  rw [hρ] at e4
  have ec0:ρ (.const (.int .i64 4))=(.int .i64 4):=(hρ _).symm
  have ec1:ρ (.const (.int .u8 63))=(.int .u8 63):=(hρ _).symm
  have ec2:ρ (.const (.int .u8 36))=(.int .u8 36):=(hρ _).symm
  have ec3:ρ (.const (.int .u8 112))=(.int .u8 112):=(hρ _).symm
  clear hJ hsame AA hcl hρ hsz hb gd
  go_simp
 ·intro L a w' hL hsame hsz hJ AA hcl
  have gd:valOf _ 6 a=.bool true:=hJ.valOf (by decide) (AL AA 6 (by kernel_rfl)) rfl rfl
  have hb:=hJ.kept.toBelow (Nat.le_refl _) (by simp)
  have e0:a.eval (.tmp 12)=(.agg (scA (.slice A1 (F.g.rows*F.g.AO) c1) F)):=AB (j:=7) (by kernel_rfl) (hJ.valOf (by decide) (AL AA 7 (by kernel_rfl)) rfl rfl)
  obtain⟨A9',c9',hv9,hc9,hs9⟩:=(show(EvR ⟨4,0,63,36,112, [25], []⟩) (valOf _ 9 a) w' from hJ.Ci (by decide) (AL AA 9 (by kernel_rfl)) rfl)
  have e1:a.eval (.tmp 14)=.agg #[.int .i64 4,.int .i32 0,.int .u8 63,.int .u8 36,.int .u8 112,.slice A9' 1 c9',.string {data:= #[]}] :=AB (j:=9) (by kernel_rfl) hv9
  refine Step.call _ rfl rfl (Am (g:=6) (b:=true) rfl gd) 6 #[.agg (scA (.slice A1 (F.g.rows*F.g.AO) c1) F),.agg #[.int .i64 4,.int .i32 0,.int .u8 63,.int .u8 36,.int .u8 112,.slice A9' 1 c9',.string {data:= #[]}]] (fun ρ hρ=>?_) ?_
  ·skip
   rw [hρ] at e0 e1
   have ef:ρ (.func 6)=.func (.func 6) #[] #[] :=(hρ _).symm
   clear hJ hsame AA hcl hρ hsz hb gd
   go_simp
  ·refine(CT25.out w' _ _ _ _ (LO4.out.trans (hb.mono LO4.out.size)) hs9 (KT.out.low hb)).mono ?_
   rintro e w2 ⟨A,c,rfl,hc,hs,bb⟩
   exact⟨_,rfl,hJ.pred hGS hcl hL rfl bb _ ⟨A,c,rfl,hs⟩⟩
 ·intro L a w' hL hsame hsz hJ AA hcl
  have gd:valOf _ 6 a=.bool true:=hJ.valOf (by decide) (AL AA 6 (by kernel_rfl)) rfl rfl
  have hb:=hJ.kept.toBelow (Nat.le_refl _) (by simp)
  obtain⟨A10',Qk,hv10,hs10⟩:=(show(ByR [27,91,63,50,53,59,49,36,121] 9) (valOf _ 10 a) w' from hJ.Ci (by decide) (AL AA 10 (by kernel_rfl)) rfl)
  have e0:a.eval (.tmp 15)=.slice A10' 9 Qk:=AB (j:=10) (by kernel_rfl) hv10
  refine Step.val _ rfl rfl (Am (g:=6) (b:=true) rfl gd) (.string {data:= #[27,91,63,50,53,59,49,36,121]}) w' (fun ρ hρ=>?_) (hJ.val hGS hcl hL rfl (Below.refl _ _) _ rfl)
  rw [hρ] at e0
  clear hJ hsame AA hcl hρ hsz hb gd
  have cv:=Cc (c:=Qk) hs10
  rw [S25.out] at cv
  go_simp
 ·intro L a w' hL hsame hsz hJ AA hcl
  have gd:valOf _ 6 a=.bool true:=hJ.valOf (by decide) (AL AA 6 (by kernel_rfl)) rfl rfl
  have hb:=hJ.kept.toBelow (Nat.le_refl _) (by simp)
  have e0:a.eval (.tmp 16)=(.string {data:= #[27,91,63,50,53,59,49,36,121]}):=AB (j:=11) (by kernel_rfl) (hJ.valOf (by decide) (AL AA 11 (by kernel_rfl)) rfl rfl)
  refine Step.val _ rfl rfl (Am (g:=6) (b:=true) rfl gd) (.bool true) w' (fun ρ hρ=>?_) (hJ.val hGS hcl hL rfl (Below.refl _ _) _ rfl)
  rw [hρ] at e0
  have ec0:ρ (.const (.string {data:= #[27,91,63,50,53,59,49,36,121]}))=(.string {data:= #[27,91,63,50,53,59,49,36,121]}):=(hρ _).symm
  clear hJ hsame AA hcl hρ hsz hb gd
  go_simp
 ·intro L a w' hL hsame hsz hJ AA hcl
  have hb:=hJ.kept.toBelow (Nat.le_refl _) (by simp)
  have e0:a.eval (.tmp 11)=(.bool true):=AB (j:=6) (by kernel_rfl) (hJ.valOf (by decide) (AL AA 6 (by kernel_rfl)) rfl rfl)
  have e1:a.eval (.tmp 17)=(.bool true):=AB (j:=12) (by kernel_rfl) (hJ.valOf (by decide) (AL AA 12 (by kernel_rfl)) rfl rfl)
  refine Step.val _ rfl rfl (AJ rfl) (.bool true) w' (fun ρ hρ=>?_) (hJ.val hGS hcl hL rfl (Below.refl _ _) _ rfl)
  rw [hρ] at e0 e1
  have ec0:ρ (.const (.bool false))=(.bool false):=(hρ _).symm
  clear hJ hsame AA hcl hρ hsz hb
  go_simp
 ·intro L a w' hL hsame hsz hJ AA hcl
  have hb:=hJ.kept.toBelow (Nat.le_refl _) (by simp)
  have e0:a.eval (.tmp 18)=(.bool true):=AB (j:=13) (by kernel_rfl) (hJ.valOf (by decide) (AL AA 13 (by kernel_rfl)) rfl rfl)
  refine Step.val _ rfl rfl (AJ rfl) (.bool true) w' (fun ρ hρ=>?_) (hJ.val hGS hcl hL rfl (Below.refl _ _) _ rfl)
  rw [hρ] at e0
  clear hJ hsame AA hcl hρ hsz hb
  go_simp
 ·intro L a w' hL hsame hsz hJ AA hcl
  have gd:valOf _ 14 a=.bool true:=hJ.valOf (by decide) (AL AA 14 (by kernel_rfl)) rfl rfl
  have hb:=hJ.kept.toBelow (Nat.le_refl _) (by simp)
  refine Step.call _ rfl rfl (Am (g:=14) (b:=true) rfl gd) 7 #[.int .u8 99,.slice none 0 0] (fun ρ hρ=>?_) ?_
  ·skip
   have ec0:ρ (.const (.int .u8 99))=(.int .u8 99):=(hρ _).symm
   have ec1:ρ (.const (.slice none 0 0))=(.slice none 0 0):=(hρ _).symm
   have ef:ρ (.func 7)=.func (.func 7) #[] #[] :=(hρ _).symm
   clear hJ hsame AA hcl hρ hsz hb gd
   go_simp
  ·refine(C0.out w').mono ?_
   rintro e w2 ⟨A,c,rfl,hc,hs,bb⟩
   exact⟨_,rfl,hJ.pred hGS hcl hL rfl bb _ ⟨A,c,rfl,hc,hs.1⟩⟩
 ·intro L a w' hL hsame hsz hJ AA hcl
  have gd:valOf _ 14 a=.bool true:=hJ.valOf (by decide) (AL AA 14 (by kernel_rfl)) rfl rfl
  have hb:=hJ.kept.toBelow (Nat.le_refl _) (by simp)
  obtain⟨Ql,Qm,hv15,hc15,hs15⟩:=(show(EvR ⟨4,0,0,0,99, [], []⟩) (valOf _ 15 a) w' from hJ.Ci (by decide) (AL AA 15 (by kernel_rfl)) rfl)
  have e0:a.eval (.tmp 20)=.agg #[.int .i64 4,.int .i32 0,.int .u8 0,.int .u8 0,.int .u8 99,.slice Ql 0 Qm,.string {data:= #[]}] :=AB (j:=15) (by kernel_rfl) hv15
  refine Step.call _ rfl rfl (Am (g:=14) (b:=true) rfl gd) 8 #[.agg #[.int .i64 4,.int .i32 0,.int .u8 0,.int .u8 0,.int .u8 99,.slice Ql 0 Qm,.string {data:= #[]}]] (fun ρ hρ=>?_) ?_
  ·skip
   rw [hρ] at e0
   have ef:ρ (.func 8)=.func (.func 8) #[] #[] :=(hρ _).symm
   clear hJ hsame AA hcl hρ hsz hb gd
   go_simp
  ·refine(CA.out w' _ _ (LO4.out.trans (hb.mono LO4.out.size)) hs15).mono ?_
   rintro e w2 ⟨rfl,bb⟩
   exact⟨_,rfl,hJ.val hGS hcl hL rfl bb _ rfl⟩
 ·intro L a w' hL hsame hsz hJ AA hcl
  have hb:=hJ.kept.toBelow (Nat.le_refl _) (by simp)
  have e0:a.eval (.tmp 19)=(.bool true):=AB (j:=14) (by kernel_rfl) (hJ.valOf (by decide) (AL AA 14 (by kernel_rfl)) rfl rfl)
  have e1:a.eval (.tmp 21)=(.bool true):=AB (j:=16) (by kernel_rfl) (hJ.valOf (by decide) (AL AA 16 (by kernel_rfl)) rfl rfl)
  refine Step.val _ rfl rfl (AJ rfl) (.bool true) w' (fun ρ hρ=>?_) (hJ.val hGS hcl hL rfl (Below.refl _ _) _ rfl)
  rw [hρ] at e0 e1
  have ec0:ρ (.const (.bool false))=(.bool false):=(hρ _).symm
  clear hJ hsame AA hcl hρ hsz hb
  go_simp
 ·intro L a w' hL hsame hsz hJ AA hcl
  have hb:=hJ.kept.toBelow (Nat.le_refl _) (by simp)
  have e0:a.eval (.tmp 22)=(.bool true):=AB (j:=17) (by kernel_rfl) (hJ.valOf (by decide) (AL AA 17 (by kernel_rfl)) rfl rfl)
  refine Step.val _ rfl rfl (AJ rfl) (.bool true) w' (fun ρ hρ=>?_) (hJ.val hGS hcl hL rfl (Below.refl _ _) _ rfl)
  rw [hρ] at e0
  clear hJ hsame AA hcl hρ hsz hb
  go_simp
 ·intro L a w' hL hsame hsz hJ AA hcl
  have gd:valOf _ 18 a=.bool true:=hJ.valOf (by decide) (AL AA 18 (by kernel_rfl)) rfl rfl
  have hb:=hJ.kept.toBelow (Nat.le_refl _) (by simp)
  have e0:a.eval (.tmp 1)=(.pointer (some ⟨gs,0,none⟩)):=Aa hsame (by kernel_rfl)
  have hx:=hJ.BJ ((show Box w3 gs 32 (scA (.slice A1 (F.g.rows*F.g.AO) c1) F) from Iq.out)) (by simp)
  exact Step.val _ rfl rfl (Am (g:=18) (b:=true) rfl gd) (.agg (scA (.slice A1 (F.g.rows*F.g.AO) c1) F)) w' (fun ρ hρ=>DZ hx rfl ρ _ rfl ((hρ _).symm.trans e0)) (hJ.val hGS hcl hL rfl (Below.refl _ _) _ rfl)
 ·intro L a w' hL hsame hsz hJ AA hcl
  have gd:valOf _ 18 a=.bool true:=hJ.valOf (by decide) (AL AA 18 (by kernel_rfl)) rfl rfl
  have hb:=hJ.kept.toBelow (Nat.le_refl _) (by simp)
  refine Step.val _ rfl rfl (Am (g:=18) (b:=true) rfl gd) (.slice (some ⟨w'.heap.size,0,none⟩) 1 1) (w'.alloc (.cells #[.int .i64 7] 3)) (fun ρ hρ=>?_) (hJ.pred hGS hcl hL rfl ((Below.refl _ _).alloc (Nat.le_refl _) _) _ (⟨_,rfl,Box.new w' _ _⟩))
  have ec0:ρ (.const (.int .i64 7))=(.int .i64 7):=(hρ _).symm
  clear hJ hsame AA hcl hρ hsz hb gd
  go_simp
 ·intro L a w' hL hsame hsz hJ AA hcl
  have gd:valOf _ 18 a=.bool true:=hJ.valOf (by decide) (AL AA 18 (by kernel_rfl)) rfl rfl
  have hb:=hJ.kept.toBelow (Nat.le_refl _) (by simp)
  obtain⟨g20,hv20,hs20⟩:=(show(El 3 1 #[.int .i64 7]) (valOf _ 20 a) w' from hJ.Ci (by decide) (AL AA 20 (by kernel_rfl)) rfl)
  have e1:a.eval (.tmp 25)=.slice (some ⟨g20,0,none⟩) 1 1:=AB (j:=20) (by kernel_rfl) hv20
  refine Step.call _ rfl rfl (Am (g:=18) (b:=true) rfl gd) 7 #[.int .u8 110,.slice (some ⟨g20,0,none⟩) 1 1] (fun ρ hρ=>?_) ?_
  ·skip
   rw [hρ] at e1
   have ec0:ρ (.const (.int .u8 110))=(.int .u8 110):=(hρ _).symm
   have ef:ρ (.func 7)=.func (.func 7) #[] #[] :=(hρ _).symm
   clear hJ hsame AA hcl hρ hsz hb gd
   go_simp
  ·refine(C7.out w' _ hs20).mono ?_
   rintro e w2 ⟨A,c,rfl,hc,hs,bb⟩
   exact⟨_,rfl,hJ.pred hGS hcl hL rfl bb _ ⟨A,c,rfl,hc,hs.1⟩⟩
 ·intro L a w' hL hsame hsz hJ AA hcl
  have gd:valOf _ 18 a=.bool true:=hJ.valOf (by decide) (AL AA 18 (by kernel_rfl)) rfl rfl
  have hb:=hJ.kept.toBelow (Nat.le_refl _) (by simp)
  have e0:a.eval (.tmp 24)=(.agg (scA (.slice A1 (F.g.rows*F.g.AO) c1) F)):=AB (j:=19) (by kernel_rfl) (hJ.valOf (by decide) (AL AA 19 (by kernel_rfl)) rfl rfl)
  obtain⟨Qn,Qo,hv21,hc21,hs21⟩:=(show(EvR ⟨4,0,0,0,110, [7], []⟩) (valOf _ 21 a) w' from hJ.Ci (by decide) (AL AA 21 (by kernel_rfl)) rfl)
  have e1:a.eval (.tmp 26)=.agg #[.int .i64 4,.int .i32 0,.int .u8 0,.int .u8 0,.int .u8 110,.slice Qn 1 Qo,.string {data:= #[]}] :=AB (j:=21) (by kernel_rfl) hv21
  refine Step.call _ rfl rfl (Am (g:=18) (b:=true) rfl gd) 6 #[.agg (scA (.slice A1 (F.g.rows*F.g.AO) c1) F),.agg #[.int .i64 4,.int .i32 0,.int .u8 0,.int .u8 0,.int .u8 110,.slice Qn 1 Qo,.string {data:= #[]}]] (fun ρ hρ=>?_) ?_
  ·skip
   rw [hρ] at e0 e1
   have ef:ρ (.func 6)=.func (.func 6) #[] #[] :=(hρ _).symm
   clear hJ hsame AA hcl hρ hsz hb gd
   go_simp
  ·refine(CT7.out w' _ _ _ _ (LO4.out.trans (hb.mono LO4.out.size)) hs21 (KT.out.low hb)).mono ?_
   rintro e w2 ⟨A,c,rfl,hc,hs,bb⟩
   exact⟨_,rfl,hJ.pred hGS hcl hL rfl bb _ ⟨A,c,rfl,hs⟩⟩
 ·intro L a w' hL hsame hsz hJ AA hcl
  have gd:valOf _ 18 a=.bool true:=hJ.valOf (by decide) (AL AA 18 (by kernel_rfl)) rfl rfl
  have hb:=hJ.kept.toBelow (Nat.le_refl _) (by simp)
  obtain⟨A22',c22',hv22,hs22⟩:=(show(ByR [] 0) (valOf _ 22 a) w' from hJ.Ci (by decide) (AL AA 22 (by kernel_rfl)) rfl)
  have e0:a.eval (.tmp 27)=.slice A22' 0 c22':=AB (j:=22) (by kernel_rfl) hv22
  refine Step.val _ rfl rfl (Am (g:=18) (b:=true) rfl gd) (.int .i64 0) w' (fun ρ hρ=>?_) (hJ.val hGS hcl hL rfl (Below.refl _ _) _ rfl)
  rw [hρ] at e0
  clear hJ hsame AA hcl hρ hsz hb gd
  go_simp
 ·intro L a w' hL hsame hsz hJ AA hcl
  have gd:valOf _ 18 a=.bool true:=hJ.valOf (by decide) (AL AA 18 (by kernel_rfl)) rfl rfl
  have hb:=hJ.kept.toBelow (Nat.le_refl _) (by simp)
  have e0:a.eval (.tmp 28)=(.int .i64 0):=AB (j:=23) (by kernel_rfl) (hJ.valOf (by decide) (AL AA 23 (by kernel_rfl)) rfl rfl)
  refine Step.val _ rfl rfl (Am (g:=18) (b:=true) rfl gd) (.bool true) w' (fun ρ hρ=>?_) (hJ.val hGS hcl hL rfl (Below.refl _ _) _ rfl)
  rw [hρ] at e0
  have ec0:ρ (.const (.int .i64 0))=(.int .i64 0):=(hρ _).symm
  clear hJ hsame AA hcl hρ hsz hb gd
  go_simp
 ·intro L a w' hL hsame hsz hJ AA hcl
  have hb:=hJ.kept.toBelow (Nat.le_refl _) (by simp)
  have e0:a.eval (.tmp 23)=(.bool true):=AB (j:=18) (by kernel_rfl) (hJ.valOf (by decide) (AL AA 18 (by kernel_rfl)) rfl rfl)
  have e1:a.eval (.tmp 29)=(.bool true):=AB (j:=24) (by kernel_rfl) (hJ.valOf (by decide) (AL AA 24 (by kernel_rfl)) rfl rfl)
  refine Step.val _ rfl rfl (AJ rfl) (.bool true) w' (fun ρ hρ=>?_) (hJ.val hGS hcl hL rfl (Below.refl _ _) _ rfl)
  rw [hρ] at e0 e1
  have ec0:ρ (.const (.bool false))=(.bool false):=(hρ _).symm
  clear hJ hsame AA hcl hρ hsz hb
  go_simp
 ·intro L a w' hL hsame hsz hJ AA hcl
  have hb:=hJ.kept.toBelow (Nat.le_refl _) (by simp)
  have e0:a.eval (.tmp 30)=(.bool true):=AB (j:=25) (by kernel_rfl) (hJ.valOf (by decide) (AL AA 25 (by kernel_rfl)) rfl rfl)
  refine Step.val _ rfl rfl (AJ rfl) (.bool true) w' (fun ρ hρ=>?_) (hJ.val hGS hcl hL rfl (Below.refl _ _) _ rfl)
  rw [hρ] at e0
  clear hJ hsame AA hcl hρ hsz hb
  go_simp
 ·intro u w' hF
  change Exit.then _ _ Exit.normal (Act.put (Act.put (Act.put (Act.put (Act.put (Act.put (Act.put (Act.put (Act.put (Act.put (Act.put (Act.put (Act.put (Act.put (Act.put (Act.put (Act.put (Act.put (Act.put (Act.put (Act.put (Act.put (Act.put (Act.put (Act.put (Act.put (Act.put (BH _ u 0 _) (some 5) (u 0)) (some 6) (u 1)) (some 7) (u 2)) (some 8) (u 3)) (some 9) (u 4)) (some 10) (u 5)) (some 11) (u 6)) (some 12) (u 7)) (some 13) (u 8)) (some 14) (u 9)) (some 15) (u 10)) (some 16) (u 11)) (some 17) (u 12)) (some 18) (u 13)) (some 19) (u 14)) (some 20) (u 15)) (some 21) (u 16)) (some 22) (u 17)) (some 23) (u 18)) (some 24) (u 19)) (some 25) (u 20)) (some 26) (u 21)) (some 27) (u 22)) (some 28) (u 23)) (some 29) (u 24)) (some 30) (u 25)) (some 0) (u 26)) _
  simp only [BH]
  obtain f26:u 26=.bool true:=hF.O4 (j:=26) (by decide) rfl rfl
  have hk:=hF.kept.toBelow (Nat.le_refl _) (by simp)
  clear hF
  generalize u 0=y0
  generalize u 1=y1
  generalize u 2=y2
  generalize u 3=y3
  generalize u 4=y4
  generalize u 5=y5
  generalize u 6=y6
  generalize u 7=y7
  generalize u 8=y8
  generalize u 9=y9
  generalize u 10=y10
  generalize u 11=y11
  generalize u 12=y12
  generalize u 13=y13
  generalize u 14=y14
  generalize u 15=y15
  generalize u 16=y16
  generalize u 17=y17
  generalize u 18=y18
  generalize u 19=y19
  generalize u 20=y20
  generalize u 21=y21
  generalize u 22=y22
  generalize u 23=y23
  generalize u 24=y24
  generalize u 25=y25
  generalize u 26=y26 at f26⊢
  subst f26
  go_simp
  go_step
  go_wp2_with fail
  go_ret
  exact⟨rfl,LO4.out.trans (hk.mono LO4.out.size)⟩
end Go.Proofs.YtoaabebgmdbjeaaDoor
