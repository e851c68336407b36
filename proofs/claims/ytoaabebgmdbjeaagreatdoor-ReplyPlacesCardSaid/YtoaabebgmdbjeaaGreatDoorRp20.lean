/- A part of the proof: ReplyRuns, KeepNum. -/
import Derived.Test.YtoaabebgmdbjeaaGreatDoorRp19
set_option maxRecDepth 100000
set_option maxHeartbeats 16000000
set_option linter.unusedVariables false
namespace Go.Proofs.YtoaabebgmdbjeaaGreatDoor
open Go Go.RowKit
def EvR (ev:PA.Ev) (v:Value) (w:World):Prop:= ∃A c,v=.agg #[.int .i64 ev.kind,.int .i32 0,.int .u8 ev.priv,.int .u8 ev.inter,.int .u8 ev.final,.slice A ev.params.length c,.string {data:= #[]}] /\ev.params.length<=c/\Seen w w.heap.size A ev.params.length (CG ev.params)
theorem EvR.stays {ev:PA.Ev}:FP [] (EvR ev):=⟨fun v w w' ⟨A,c,h1,h2,h3⟩ hb=>⟨A,c,h1,h2,(h3.below hb).more hb.size⟩,fun v w w' g' T' cs' h hb hT hk=>by simp at hT⟩
def ByR (bs:List Int) (m:Nat) (v:Value) (w:World):Prop:= ∃A c,v=.slice A m c/\Seen w w.heap.size A m (u8s bs)
theorem ByR.stays {bs:List Int} {m:Nat}:FP [] (ByR bs m):=⟨fun v w w' ⟨A,c,h1,h3⟩ hb=>⟨A,c,h1,(h3.below hb).more hb.size⟩,fun v w w' g' T' cs' h hb hT hk=>by simp at hT⟩
theorem Oi (f x:Int) (hx:x≠ -1) (w':World) (g:Nat) (hb:Box w' g 3 #[.int .i64 x]):Calls Tryz.prog 30 #[.int .u8 f,.slice (some ⟨g,0,none⟩) 1 1] w' fun e w2=> ∃A' c',e=.returned (.agg #[.int .i64 4,.int .i32 0,.int .u8 0,.int .u8 0,.int .u8 f,.slice A' 1 c',.string ⟨#[]⟩])/\1<=c'/\Ey w'.heap.size w2 A' 1 (CG [x])/\Below w'.heap.size w' w2:=
 K4 (f:=f) (A:=some ⟨g,0,none⟩) (n:=1) (c:=1) (l:= [x]) (w:=w') [x] 1 (by unfold Cx;rw [if_neg (by simpa using hx)]) rfl (Seen.DI hb rfl rfl hb.lt) (by omega)
theorem Mx (w:World) (hM:Ia w) (hT:J9 w):Calls Tryz.prog 33 #[] w fun e w'=>e=.returned (.bool true)/\Below w.heap.size w w':=by
 have NW:=hide (fun w'=>UN 5 9 5 9 rfl rfl (by omega) (by omega) w')
 obtain⟨F,hF⟩: ∃F,((SN.full 5 9).u3 2).u4 4=F:=⟨_,rfl⟩
 have FB:F.row<=60000/\F.col<=60000/\F.top<=60000:=by subst hF;decide
 have t6:RP.said F 4 0 0 110 [6] = [27,91,51,59,53,82] :=by subst hF;kernel_rfl
 have t25:RP.said F 4 63 36 112 [25] = [27,91,63,50,53,59,49,36,121] :=by subst hF;kernel_rfl
 have t7:RP.said F 4 0 0 110 [7] = [] :=by subst hF;kernel_rfl
 have CT:=fun (k p i f:Int) (l:List Int) (n:Nat) (hn:l.length=n) (hlb: ∀x∈l, -1<=x/\x<=65535) (bs:List Int) (m:Nat) (hb:RP.said F k p i f l=bs) (hm:bs.length=m)=>hide (fun (w':World) A c A' c' (hw:Below w.heap.size w w') (hl:Seen w' w'.heap.size A' n (CG l)) (h:IsG w' F.g (gv F.g.rows F.g.AB (.slice A (F.g.rows*F.g.AB) c)))=>
  Oh F (.slice A (F.g.rows*F.g.AB) c) k 0 p i f A' n c' w'.heap.size ⟨#[]⟩ l w' bs m hb hm FB.1 FB.2.1 FB.2.2 rfl hl (Nat.le_refl _) hlb (hM.keep hw) (hT.keep hw) ⟨_,rfl,h⟩)
 have CT6:=CT 4 0 0 110 [6] 1 rfl (by decide) _ 6 t6 rfl
 have CT25:=CT 4 63 36 112 [25] 1 rfl (by decide) _ 9 t25 rfl
 have CT7:=CT 4 0 0 110 [7] 1 rfl (by decide) _ 0 t7 rfl
 have CA:=hide (fun (w':World) A' c' (hw:Below w.heap.size w w') (hl:Seen w' w'.heap.size A' 0 (CG []))=>Yz 4 0 0 0 99 A' 0 c' w'.heap.size ⟨#[]⟩ [] w' true (by decide) hl (Nat.le_refl _) (by simp) (hM.keep hw))
 have C0:=hide (fun (w':World)=>K4 (f:=99) (A:=none) (n:=0) (c:=0) (l:= []) (w:=w') [] 0 (by unfold Cx;rw [if_neg (by simp)]) rfl (Seen.I8 _ _ _) (by omega))
 have C6:=hide (Oi 110 6 (by decide))
 have C7:=hide (Oi 110 7 (by decide))
 have S6:=hide (show strOfNums [27,91,51,59,53,82] ={data:= #[27,91,51,59,53,82]} from rfl)
 have S25:=hide (show strOfNums [27,91,63,50,53,59,49,36,121] ={data:= #[27,91,63,50,53,59,49,36,121]} from rfl)
 have HF:=hide hF
 have hFg:F.g=(SN.full 5 9).g:=by subst hF;rfl
 have HFG:=hide hFg
 have LO0:=hide (Below.refl w.heap.size w)
 clear hM hT hF t6 t25 t7 CT hFg
 go_enter Tryz.func33,Tryz.ntmps33
 go_wp2_with fail
 refine(NW.out _).mono ?_
 rintro e wb1 ⟨v1,rfl,⟨x1,rfl,hg1⟩,hb1⟩
 have LO1:=hide (LO0.out.trans (hb1.mono LO0.out.size))
 clear LO0 hb1
 obtain⟨A1,c1,rfl⟩:=Ac hg1
 have Y0:=hide hg1
 clear hg1
 go_upto_region 2 with (first | (refine BQ rfl rfl ?_;intro gs wags csgs TD jC TF jD) | (refine AV TD jC rfl _ _ rfl rfl rfl rfl ?_;intro TG Y1 TH jE))
 have mE:w.heap.size<=gs:=by have:=LO1.out.size;omega
 have Y2:=hide (Y0.out.low TF)
 have LO2:=hide (LO1.out.trans (TF.mono LO1.out.size))
 clear Y0 LO1 TF
 have Y3:=hide (Y2.out.kept TD (by decide) TH)
 have LO3:=hide (LO2.out.trans (TH.toBelow LO2.out.size (fun k hh=>by simp at hh;omega)))
 clear Y2 LO2
 have JN:=hide Y1
 clear Y1 TH TD jD
 clear jE
 go_simp
 have TI:=JN.out.fz 3
 have TL:=JN.out.fz 4
 have TM:=(show _=some (.int .i64 (0:Nat):Value) from JN.out.c3)
 have TN:=(show _=some (.int .i64 (0:Nat):Value) from JN.out.c4)
 go_upto_region 3 with fail
 have hkp:=(((Kept.refl [some gs] TG).setCell (p:=⟨gs,3,none⟩) (From.mem (by simp)) (.int .i64 2)).setCell (p:=⟨gs,4,none⟩) (From.mem (by simp)) (.int .i64 4))
 have hsp:Aj ((TG.setCell ⟨gs,3,none⟩ (.int .i64 2)).setCell ⟨gs,4,none⟩ (.int .i64 4)) gs _ _:=((JN.out.Cb 2).Rk 4)
 generalize ((TG.setCell ⟨gs,3,none⟩ (.int .i64 2)).setCell ⟨gs,4,none⟩ (.int .i64 4))=w3 at hkp hsp⊢
 have Ql:=hide (Y3.out.kept JN.out (by decide) hkp)
 have LO4:=hide (LO3.out.trans (hkp.toBelow LO3.out.size (fun k hh=>by simp at hh;omega)))
 clear Y3 LO3
 have JO:=hide hsp
 clear hsp hkp JN
 clear TI TL TM TN
 simp only [HF.out] at*
 rw [<- HFG.out] at Ql JO
 refine Dl (n:=31) [] (fun _=> #[]) [(0,0,0,0,0),(1,0,0,0,0),(1,0,0,0,0),(1,0,0,0,0),(0,0,0,0,0),(0,0,0,0,0),(0,0,0,0,0),(0,0,0,0,0),(1,0,0,0,0),(1,0,0,0,0),(1,0,0,0,0),(0,0,0,0,0),(0,0,0,0,0),(0,0,0,0,0),(0,0,0,0,0),(1,0,0,0,0),(0,0,0,0,0),(0,0,0,0,0),(0,0,0,0,0),(0,0,0,0,0),(1,0,0,0,0),(1,0,0,0,0),(1,0,0,0,0),(0,0,0,0,0),(0,0,0,0,0),(0,0,0,0,0),(0,0,0,0,0)] (fun j=> [(.agg (scA (.slice A1 (F.g.rows*F.g.AB) c1) F)),undef,undef,undef,(.string {data:= #[27,91,51,59,53,82]}),(.bool true),(.bool true),(.agg (scA (.slice A1 (F.g.rows*F.g.AB) c1) F)),undef,undef,undef,(.string {data:= #[27,91,63,50,53,59,49,36,121]}),(.bool true),(.bool true),(.bool true),undef,(.bool true),(.bool true),(.bool true),(.agg (scA (.slice A1 (F.g.rows*F.g.AB) c1) F)),undef,undef,undef,(.int .i64 0),(.bool true),(.bool true),(.bool true)].getD j undef) [none,some (Hg 3 1 #[.int .i64 6]),some (EvR ⟨4,0,0,0,110, [6], []⟩),some (ByR [27,91,51,59,53,82] 6),none,none,none,none,some (Hg 3 1 #[.int .i64 25]),some (EvR ⟨4,0,63,36,112, [25], []⟩),some (ByR [27,91,63,50,53,59,49,36,121] 9),none,none,none,none,some (EvR ⟨4,0,0,0,99, [], []⟩),none,none,none,none,some (Hg 3 1 #[.int .i64 7]),some (EvR ⟨4,0,0,0,110, [7], []⟩),some (ByR [] 0)] (fun _=>0) (by kernel_rfl) (by kernel_rfl) (by kernel_rfl) rfl (by kernel_rfl) (Cy rfl) (fun i j h=>by revert h;exact Cy (p:=fun _=>_) rfl i) (Ag.none_ (Ag.some_ (Hg.stays (by kernel_rfl)) (Ag.some_ (EvR.stays) (Ag.some_ (ByR.stays) (Ag.none_ (Ag.none_ (Ag.none_ (Ag.none_ (Ag.some_ (Hg.stays (by kernel_rfl)) (Ag.some_ (EvR.stays) (Ag.some_ (ByR.stays) (Ag.none_ (Ag.none_ (Ag.none_ (Ag.none_ (Ag.some_ (EvR.stays) (Ag.none_ (Ag.none_ (Ag.none_ (Ag.none_ (Ag.some_ (Hg.stays (by kernel_rfl)) (Ag.some_ (EvR.stays) (Ag.some_ (ByR.stays) (Ag.nil _)))))))))))))))))))))))) (fun hGS=>Tn ⟨?_,?_,?_,?_,?_,?_,?_,?_,?_,?_,?_,?_,?_,?_,?_,?_,?_,?_,?_,?_,?_,?_,?_,?_,?_,?_,?_⟩) ?_
 ·intro L a w' hL hsame hsz hJ AJ hcl
  have hb:=hJ.kept.toBelow (Nat.le_refl _) (by simp)
  have e0:a.eval (.tmp 1)=(.pointer (some ⟨gs,0,none⟩)):=AZ hsame (by kernel_rfl)
  have hx:=hJ.Ah ((show Box w3 gs 43 (scA (.slice A1 (F.g.rows*F.g.AB) c1) F) from JO.out)) (by simp)
  exact Step.val _ rfl rfl (AU rfl) (.agg (scA (.slice A1 (F.g.rows*F.g.AB) c1) F)) w' (fun ρ hρ=>BG hx rfl ρ _ rfl ((hρ _).symm.trans e0)) (hJ.val hGS hcl hL rfl (Below.refl _ _) _ rfl)
 ·intro L a w' hL hsame hsz hJ AJ hcl
  have hb:=hJ.kept.toBelow (Nat.le_refl _) (by simp)
  refine Step.val _ rfl rfl (AU rfl) (.slice (some ⟨w'.heap.size,0,none⟩) 1 1) (w'.alloc (.cells #[.int .i64 6] 3)) (fun ρ hρ=>?_) (hJ.pred hGS hcl hL rfl ((Below.refl _ _).alloc (Nat.le_refl _) _) _ (⟨_,rfl,Box.new w' _ _⟩))
  have ec0:ρ (.const (.int .i64 6))=(.int .i64 6):=(hρ _).symm
  clear hJ hsame AJ hcl hρ hsz hb
  go_simp
 ·intro L a w' hL hsame hsz hJ AJ hcl
  have hb:=hJ.kept.toBelow (Nat.le_refl _) (by simp)
  obtain⟨g1,hv1,hs1⟩:=(show(Hg 3 1 #[.int .i64 6]) (valOf _ 1 a) w' from hJ.Bc (by decide) (AY AJ 1 (by kernel_rfl)) rfl)
  have e1:a.eval (.tmp 6)=.slice (some ⟨g1,0,none⟩) 1 1:=AQ (j:=1) (by kernel_rfl) hv1
  refine Step.call _ rfl rfl (AU rfl) 30 #[.int .u8 110,.slice (some ⟨g1,0,none⟩) 1 1] (fun ρ hρ=>?_) ?_
  ·skip
   rw [hρ] at e1
   have ec0:ρ (.const (.int .u8 110))=(.int .u8 110):=(hρ _).symm
   have ef:ρ (.func 30)=.func (.func 30) #[] #[] :=(hρ _).symm
   clear hJ hsame AJ hcl hρ hsz hb
   go_simp
  ·refine(C6.out w' _ hs1).mono ?_
   rintro e w2 ⟨A,c,rfl,hc,hs,bb⟩
   exact⟨_,rfl,hJ.pred hGS hcl hL rfl bb _ ⟨A,c,rfl,hc,hs.1⟩⟩
 ·intro L a w' hL hsame hsz hJ AJ hcl
  have hb:=hJ.kept.toBelow (Nat.le_refl _) (by simp)
  have e0:a.eval (.tmp 5)=(.agg (scA (.slice A1 (F.g.rows*F.g.AB) c1) F)):=AQ (j:=0) (by kernel_rfl) (hJ.valOf (by decide) (AY AJ 0 (by kernel_rfl)) rfl rfl)
  obtain⟨A2',c2',hv2,hc2,hs2⟩:=(show(EvR ⟨4,0,0,0,110, [6], []⟩) (valOf _ 2 a) w' from hJ.Bc (by decide) (AY AJ 2 (by kernel_rfl)) rfl)
  have e1:a.eval (.tmp 7)=.agg #[.int .i64 4,.int .i32 0,.int .u8 0,.int .u8 0,.int .u8 110,.slice A2' 1 c2',.string {data:= #[]}] :=AQ (j:=2) (by kernel_rfl) hv2
  refine Step.call _ rfl rfl (AU rfl) 31 #[.agg (scA (.slice A1 (F.g.rows*F.g.AB) c1) F),.agg #[.int .i64 4,.int .i32 0,.int .u8 0,.int .u8 0,.int .u8 110,.slice A2' 1 c2',.string {data:= #[]}]] (fun ρ hρ=>?_) ?_
  ·skip
   rw [hρ] at e0 e1
   have ef:ρ (.func 31)=.func (.func 31) #[] #[] :=(hρ _).symm
   clear hJ hsame AJ hcl hρ hsz hb
   go_simp
  ·refine(CT6.out w' _ _ _ _ (LO4.out.trans (hb.mono LO4.out.size)) hs2 (Ql.out.low hb)).mono ?_
   rintro e w2 ⟨A,c,rfl,hc,hs,bb⟩
   exact⟨_,rfl,hJ.pred hGS hcl hL rfl bb _ ⟨A,c,rfl,hs⟩⟩
 ·intro L a w' hL hsame hsz hJ AJ hcl
  have hb:=hJ.kept.toBelow (Nat.le_refl _) (by simp)
  obtain⟨A3',c3',hv3,hs3⟩:=(show(ByR [27,91,51,59,53,82] 6) (valOf _ 3 a) w' from hJ.Bc (by decide) (AY AJ 3 (by kernel_rfl)) rfl)
  have e0:a.eval (.tmp 8)=.slice A3' 6 c3':=AQ (j:=3) (by kernel_rfl) hv3
  refine Step.val _ rfl rfl (AU rfl) (.string {data:= #[27,91,51,59,53,82]}) w' (fun ρ hρ=>?_) (hJ.val hGS hcl hL rfl (Below.refl _ _) _ rfl)
  rw [hρ] at e0
  clear hJ hsame AJ hcl hρ hsz hb
  have cv:=Ed (c:=c3') hs3
  rw [S6.out] at cv
  go_simp
 ·intro L a w' hL hsame hsz hJ AJ hcl
  have hb:=hJ.kept.toBelow (Nat.le_refl _) (by simp)
  have e0:a.eval (.tmp 9)=(.string {data:= #[27,91,51,59,53,82]}):=AQ (j:=4) (by kernel_rfl) (hJ.valOf (by decide) (AY AJ 4 (by kernel_rfl)) rfl rfl)
  refine Step.val _ rfl rfl (AU rfl) (.bool true) w' (fun ρ hρ=>?_) (hJ.val hGS hcl hL rfl (Below.refl _ _) _ rfl)
  rw [hρ] at e0
  have ec0:ρ (.const (.string {data:= #[27,91,51,59,53,82]}))=(.string {data:= #[27,91,51,59,53,82]}):=(hρ _).symm
  clear hJ hsame AJ hcl hρ hsz hb
  go_simp
 ·intro L a w' hL hsame hsz hJ AJ hcl
  have hb:=hJ.kept.toBelow (Nat.le_refl _) (by simp)
  have e0:a.eval (.tmp 10)=(.bool true):=AQ (j:=5) (by kernel_rfl) (hJ.valOf (by decide) (AY AJ 5 (by kernel_rfl)) rfl rfl)
  refine Step.val _ rfl rfl (AU rfl) (.bool true) w' (fun ρ hρ=>?_) (hJ.val hGS hcl hL rfl (Below.refl _ _) _ rfl)
  rw [hρ] at e0
  clear hJ hsame AJ hcl hρ hsz hb
  go_simp
 ·intro L a w' hL hsame hsz hJ AJ hcl
  have gd:valOf _ 6 a=.bool true:=hJ.valOf (by decide) (AY AJ 6 (by kernel_rfl)) rfl rfl
  have hb:=hJ.kept.toBelow (Nat.le_refl _) (by simp)
  have e0:a.eval (.tmp 1)=(.pointer (some ⟨gs,0,none⟩)):=AZ hsame (by kernel_rfl)
  have hx:=hJ.Ah ((show Box w3 gs 43 (scA (.slice A1 (F.g.rows*F.g.AB) c1) F) from JO.out)) (by simp)
  exact Step.val _ rfl rfl (Ao (g:=6) (b:=true) rfl gd) (.agg (scA (.slice A1 (F.g.rows*F.g.AB) c1) F)) w' (fun ρ hρ=>BG hx rfl ρ _ rfl ((hρ _).symm.trans e0)) (hJ.val hGS hcl hL rfl (Below.refl _ _) _ rfl)
 ·intro L a w' hL hsame hsz hJ AJ hcl
  have gd:valOf _ 6 a=.bool true:=hJ.valOf (by decide) (AY AJ 6 (by kernel_rfl)) rfl rfl
  have hb:=hJ.kept.toBelow (Nat.le_refl _) (by simp)
  refine Step.val _ rfl rfl (Ao (g:=6) (b:=true) rfl gd) (.slice (some ⟨w'.heap.size,0,none⟩) 1 1) (w'.alloc (.cells #[.int .i64 25] 3)) (fun ρ hρ=>?_) (hJ.pred hGS hcl hL rfl ((Below.refl _ _).alloc (Nat.le_refl _) _) _ (⟨_,rfl,Box.new w' _ _⟩))
  have ec0:ρ (.const (.int .i64 25))=(.int .i64 25):=(hρ _).symm
  clear hJ hsame AJ hcl hρ hsz hb gd
  go_simp
 ·intro L a w' hL hsame hsz hJ AJ hcl
  have gd:valOf _ 6 a=.bool true:=hJ.valOf (by decide) (AY AJ 6 (by kernel_rfl)) rfl rfl
  have hb:=hJ.kept.toBelow (Nat.le_refl _) (by simp)
  obtain⟨g8,hv8,hs8⟩:=(show(Hg 3 1 #[.int .i64 25]) (valOf _ 8 a) w' from hJ.Bc (by decide) (AY AJ 8 (by kernel_rfl)) rfl)
  have e4:a.eval (.tmp 13)=.slice (some ⟨g8,0,none⟩) 1 1:=AQ (j:=8) (by kernel_rfl) hv8
  refine Step.val _ rfl rfl (Ao (g:=6) (b:=true) rfl gd) (.agg #[.int .i64 4,.int .i32 0,.int .u8 63,.int .u8 36,.int .u8 112,.slice (some ⟨g8,0,none⟩) 1 1,.string {data:= #[]}]) (w') (fun ρ hρ=>?_) (hJ.pred hGS hcl hL rfl (Below.refl _ _) _ (⟨_,1,rfl,Nat.le_refl _,Seen.DI hs8 rfl rfl hs8.lt⟩))
  rw [hρ] at e4
  have ec0:ρ (.const (.int .i64 4))=(.int .i64 4):=(hρ _).symm
  have ec1:ρ (.const (.int .u8 63))=(.int .u8 63):=(hρ _).symm
  have ec2:ρ (.const (.int .u8 36))=(.int .u8 36):=(hρ _).symm
  have ec3:ρ (.const (.int .u8 112))=(.int .u8 112):=(hρ _).symm
  clear hJ hsame AJ hcl hρ hsz hb gd
  go_simp
 ·intro L a w' hL hsame hsz hJ AJ hcl
  have gd:valOf _ 6 a=.bool true:=hJ.valOf (by decide) (AY AJ 6 (by kernel_rfl)) rfl rfl
  have hb:=hJ.kept.toBelow (Nat.le_refl _) (by simp)
  have e0:a.eval (.tmp 12)=(.agg (scA (.slice A1 (F.g.rows*F.g.AB) c1) F)):=AQ (j:=7) (by kernel_rfl) (hJ.valOf (by decide) (AY AJ 7 (by kernel_rfl)) rfl rfl)
  obtain⟨A9',c9',hv9,hc9,hs9⟩:=(show(EvR ⟨4,0,63,36,112, [25], []⟩) (valOf _ 9 a) w' from hJ.Bc (by decide) (AY AJ 9 (by kernel_rfl)) rfl)
  have e1:a.eval (.tmp 14)=.agg #[.int .i64 4,.int .i32 0,.int .u8 63,.int .u8 36,.int .u8 112,.slice A9' 1 c9',.string {data:= #[]}] :=AQ (j:=9) (by kernel_rfl) hv9
  refine Step.call _ rfl rfl (Ao (g:=6) (b:=true) rfl gd) 31 #[.agg (scA (.slice A1 (F.g.rows*F.g.AB) c1) F),.agg #[.int .i64 4,.int .i32 0,.int .u8 63,.int .u8 36,.int .u8 112,.slice A9' 1 c9',.string {data:= #[]}]] (fun ρ hρ=>?_) ?_
  ·skip
   rw [hρ] at e0 e1
   have ef:ρ (.func 31)=.func (.func 31) #[] #[] :=(hρ _).symm
   clear hJ hsame AJ hcl hρ hsz hb gd
   go_simp
  ·refine(CT25.out w' _ _ _ _ (LO4.out.trans (hb.mono LO4.out.size)) hs9 (Ql.out.low hb)).mono ?_
   rintro e w2 ⟨A,c,rfl,hc,hs,bb⟩
   exact⟨_,rfl,hJ.pred hGS hcl hL rfl bb _ ⟨A,c,rfl,hs⟩⟩
 ·intro L a w' hL hsame hsz hJ AJ hcl
  have gd:valOf _ 6 a=.bool true:=hJ.valOf (by decide) (AY AJ 6 (by kernel_rfl)) rfl rfl
  have hb:=hJ.kept.toBelow (Nat.le_refl _) (by simp)
  obtain⟨TP,Qm,hv10,hs10⟩:=(show(ByR [27,91,63,50,53,59,49,36,121] 9) (valOf _ 10 a) w' from hJ.Bc (by decide) (AY AJ 10 (by kernel_rfl)) rfl)
  have e0:a.eval (.tmp 15)=.slice TP 9 Qm:=AQ (j:=10) (by kernel_rfl) hv10
  refine Step.val _ rfl rfl (Ao (g:=6) (b:=true) rfl gd) (.string {data:= #[27,91,63,50,53,59,49,36,121]}) w' (fun ρ hρ=>?_) (hJ.val hGS hcl hL rfl (Below.refl _ _) _ rfl)
  rw [hρ] at e0
  clear hJ hsame AJ hcl hρ hsz hb gd
  have cv:=Ed (c:=Qm) hs10
  rw [S25.out] at cv
  go_simp
 ·intro L a w' hL hsame hsz hJ AJ hcl
  have gd:valOf _ 6 a=.bool true:=hJ.valOf (by decide) (AY AJ 6 (by kernel_rfl)) rfl rfl
  have hb:=hJ.kept.toBelow (Nat.le_refl _) (by simp)
  have e0:a.eval (.tmp 16)=(.string {data:= #[27,91,63,50,53,59,49,36,121]}):=AQ (j:=11) (by kernel_rfl) (hJ.valOf (by decide) (AY AJ 11 (by kernel_rfl)) rfl rfl)
  refine Step.val _ rfl rfl (Ao (g:=6) (b:=true) rfl gd) (.bool true) w' (fun ρ hρ=>?_) (hJ.val hGS hcl hL rfl (Below.refl _ _) _ rfl)
  rw [hρ] at e0
  have ec0:ρ (.const (.string {data:= #[27,91,63,50,53,59,49,36,121]}))=(.string {data:= #[27,91,63,50,53,59,49,36,121]}):=(hρ _).symm
  clear hJ hsame AJ hcl hρ hsz hb gd
  go_simp
 ·intro L a w' hL hsame hsz hJ AJ hcl
  have hb:=hJ.kept.toBelow (Nat.le_refl _) (by simp)
  have e0:a.eval (.tmp 11)=(.bool true):=AQ (j:=6) (by kernel_rfl) (hJ.valOf (by decide) (AY AJ 6 (by kernel_rfl)) rfl rfl)
  have e1:a.eval (.tmp 17)=(.bool true):=AQ (j:=12) (by kernel_rfl) (hJ.valOf (by decide) (AY AJ 12 (by kernel_rfl)) rfl rfl)
  refine Step.val _ rfl rfl (AU rfl) (.bool true) w' (fun ρ hρ=>?_) (hJ.val hGS hcl hL rfl (Below.refl _ _) _ rfl)
  rw [hρ] at e0 e1
  have ec0:ρ (.const (.bool false))=(.bool false):=(hρ _).symm
  clear hJ hsame AJ hcl hρ hsz hb
  go_simp
 ·intro L a w' hL hsame hsz hJ AJ hcl
  have hb:=hJ.kept.toBelow (Nat.le_refl _) (by simp)
  have e0:a.eval (.tmp 18)=(.bool true):=AQ (j:=13) (by kernel_rfl) (hJ.valOf (by decide) (AY AJ 13 (by kernel_rfl)) rfl rfl)
  refine Step.val _ rfl rfl (AU rfl) (.bool true) w' (fun ρ hρ=>?_) (hJ.val hGS hcl hL rfl (Below.refl _ _) _ rfl)
  rw [hρ] at e0
  clear hJ hsame AJ hcl hρ hsz hb
  go_simp
 ·intro L a w' hL hsame hsz hJ AJ hcl
  have gd:valOf _ 14 a=.bool true:=hJ.valOf (by decide) (AY AJ 14 (by kernel_rfl)) rfl rfl
  have hb:=hJ.kept.toBelow (Nat.le_refl _) (by simp)
  refine Step.call _ rfl rfl (Ao (g:=14) (b:=true) rfl gd) 30 #[.int .u8 99,.slice none 0 0] (fun ρ hρ=>?_) ?_
  ·skip
   have ec0:ρ (.const (.int .u8 99))=(.int .u8 99):=(hρ _).symm
   have ec1:ρ (.const (.slice none 0 0))=(.slice none 0 0):=(hρ _).symm
   have ef:ρ (.func 30)=.func (.func 30) #[] #[] :=(hρ _).symm
   clear hJ hsame AJ hcl hρ hsz hb gd
   go_simp
  ·refine(C0.out w').mono ?_
   rintro e w2 ⟨A,c,rfl,hc,hs,bb⟩
   exact⟨_,rfl,hJ.pred hGS hcl hL rfl bb _ ⟨A,c,rfl,hc,hs.1⟩⟩
 ·intro L a w' hL hsame hsz hJ AJ hcl
  have gd:valOf _ 14 a=.bool true:=hJ.valOf (by decide) (AY AJ 14 (by kernel_rfl)) rfl rfl
  have hb:=hJ.kept.toBelow (Nat.le_refl _) (by simp)
  obtain⟨Y4,Y5,hv15,hc15,hs15⟩:=(show(EvR ⟨4,0,0,0,99, [], []⟩) (valOf _ 15 a) w' from hJ.Bc (by decide) (AY AJ 15 (by kernel_rfl)) rfl)
  have e0:a.eval (.tmp 20)=.agg #[.int .i64 4,.int .i32 0,.int .u8 0,.int .u8 0,.int .u8 99,.slice Y4 0 Y5,.string {data:= #[]}] :=AQ (j:=15) (by kernel_rfl) hv15
  refine Step.call _ rfl rfl (Ao (g:=14) (b:=true) rfl gd) 70 #[.agg #[.int .i64 4,.int .i32 0,.int .u8 0,.int .u8 0,.int .u8 99,.slice Y4 0 Y5,.string {data:= #[]}]] (fun ρ hρ=>?_) ?_
  ·skip
   rw [hρ] at e0
   have ef:ρ (.func 70)=.func (.func 70) #[] #[] :=(hρ _).symm
   clear hJ hsame AJ hcl hρ hsz hb gd
   go_simp
  ·refine(CA.out w' _ _ (LO4.out.trans (hb.mono LO4.out.size)) hs15).mono ?_
   rintro e w2 ⟨rfl,bb⟩
   exact⟨_,rfl,hJ.val hGS hcl hL rfl bb _ rfl⟩
 ·intro L a w' hL hsame hsz hJ AJ hcl
  have hb:=hJ.kept.toBelow (Nat.le_refl _) (by simp)
  have e0:a.eval (.tmp 19)=(.bool true):=AQ (j:=14) (by kernel_rfl) (hJ.valOf (by decide) (AY AJ 14 (by kernel_rfl)) rfl rfl)
  have e1:a.eval (.tmp 21)=(.bool true):=AQ (j:=16) (by kernel_rfl) (hJ.valOf (by decide) (AY AJ 16 (by kernel_rfl)) rfl rfl)
  refine Step.val _ rfl rfl (AU rfl) (.bool true) w' (fun ρ hρ=>?_) (hJ.val hGS hcl hL rfl (Below.refl _ _) _ rfl)
  rw [hρ] at e0 e1
  have ec0:ρ (.const (.bool false))=(.bool false):=(hρ _).symm
  clear hJ hsame AJ hcl hρ hsz hb
  go_simp
 ·intro L a w' hL hsame hsz hJ AJ hcl
  have hb:=hJ.kept.toBelow (Nat.le_refl _) (by simp)
  have e0:a.eval (.tmp 22)=(.bool true):=AQ (j:=17) (by kernel_rfl) (hJ.valOf (by decide) (AY AJ 17 (by kernel_rfl)) rfl rfl)
  refine Step.val _ rfl rfl (AU rfl) (.bool true) w' (fun ρ hρ=>?_) (hJ.val hGS hcl hL rfl (Below.refl _ _) _ rfl)
  rw [hρ] at e0
  clear hJ hsame AJ hcl hρ hsz hb
  go_simp
 ·intro L a w' hL hsame hsz hJ AJ hcl
  have gd:valOf _ 18 a=.bool true:=hJ.valOf (by decide) (AY AJ 18 (by kernel_rfl)) rfl rfl
  have hb:=hJ.kept.toBelow (Nat.le_refl _) (by simp)
  have e0:a.eval (.tmp 1)=(.pointer (some ⟨gs,0,none⟩)):=AZ hsame (by kernel_rfl)
  have hx:=hJ.Ah ((show Box w3 gs 43 (scA (.slice A1 (F.g.rows*F.g.AB) c1) F) from JO.out)) (by simp)
  exact Step.val _ rfl rfl (Ao (g:=18) (b:=true) rfl gd) (.agg (scA (.slice A1 (F.g.rows*F.g.AB) c1) F)) w' (fun ρ hρ=>BG hx rfl ρ _ rfl ((hρ _).symm.trans e0)) (hJ.val hGS hcl hL rfl (Below.refl _ _) _ rfl)
 ·intro L a w' hL hsame hsz hJ AJ hcl
  have gd:valOf _ 18 a=.bool true:=hJ.valOf (by decide) (AY AJ 18 (by kernel_rfl)) rfl rfl
  have hb:=hJ.kept.toBelow (Nat.le_refl _) (by simp)
  refine Step.val _ rfl rfl (Ao (g:=18) (b:=true) rfl gd) (.slice (some ⟨w'.heap.size,0,none⟩) 1 1) (w'.alloc (.cells #[.int .i64 7] 3)) (fun ρ hρ=>?_) (hJ.pred hGS hcl hL rfl ((Below.refl _ _).alloc (Nat.le_refl _) _) _ (⟨_,rfl,Box.new w' _ _⟩))
  have ec0:ρ (.const (.int .i64 7))=(.int .i64 7):=(hρ _).symm
  clear hJ hsame AJ hcl hρ hsz hb gd
  go_simp
 ·intro L a w' hL hsame hsz hJ AJ hcl
  have gd:valOf _ 18 a=.bool true:=hJ.valOf (by decide) (AY AJ 18 (by kernel_rfl)) rfl rfl
  have hb:=hJ.kept.toBelow (Nat.le_refl _) (by simp)
  obtain⟨g20,hv20,hs20⟩:=(show(Hg 3 1 #[.int .i64 7]) (valOf _ 20 a) w' from hJ.Bc (by decide) (AY AJ 20 (by kernel_rfl)) rfl)
  have e1:a.eval (.tmp 25)=.slice (some ⟨g20,0,none⟩) 1 1:=AQ (j:=20) (by kernel_rfl) hv20
  refine Step.call _ rfl rfl (Ao (g:=18) (b:=true) rfl gd) 30 #[.int .u8 110,.slice (some ⟨g20,0,none⟩) 1 1] (fun ρ hρ=>?_) ?_
  ·skip
   rw [hρ] at e1
   have ec0:ρ (.const (.int .u8 110))=(.int .u8 110):=(hρ _).symm
   have ef:ρ (.func 30)=.func (.func 30) #[] #[] :=(hρ _).symm
   clear hJ hsame AJ hcl hρ hsz hb gd
   go_simp
  ·refine(C7.out w' _ hs20).mono ?_
   rintro e w2 ⟨A,c,rfl,hc,hs,bb⟩
   exact⟨_,rfl,hJ.pred hGS hcl hL rfl bb _ ⟨A,c,rfl,hc,hs.1⟩⟩
 ·intro L a w' hL hsame hsz hJ AJ hcl
  have gd:valOf _ 18 a=.bool true:=hJ.valOf (by decide) (AY AJ 18 (by kernel_rfl)) rfl rfl
  have hb:=hJ.kept.toBelow (Nat.le_refl _) (by simp)
  have e0:a.eval (.tmp 24)=(.agg (scA (.slice A1 (F.g.rows*F.g.AB) c1) F)):=AQ (j:=19) (by kernel_rfl) (hJ.valOf (by decide) (AY AJ 19 (by kernel_rfl)) rfl rfl)
  obtain⟨Y6,Y7,hv21,hc21,hs21⟩:=(show(EvR ⟨4,0,0,0,110, [7], []⟩) (valOf _ 21 a) w' from hJ.Bc (by decide) (AY AJ 21 (by kernel_rfl)) rfl)
  have e1:a.eval (.tmp 26)=.agg #[.int .i64 4,.int .i32 0,.int .u8 0,.int .u8 0,.int .u8 110,.slice Y6 1 Y7,.string {data:= #[]}] :=AQ (j:=21) (by kernel_rfl) hv21
  refine Step.call _ rfl rfl (Ao (g:=18) (b:=true) rfl gd) 31 #[.agg (scA (.slice A1 (F.g.rows*F.g.AB) c1) F),.agg #[.int .i64 4,.int .i32 0,.int .u8 0,.int .u8 0,.int .u8 110,.slice Y6 1 Y7,.string {data:= #[]}]] (fun ρ hρ=>?_) ?_
  ·skip
   rw [hρ] at e0 e1
   have ef:ρ (.func 31)=.func (.func 31) #[] #[] :=(hρ _).symm
   clear hJ hsame AJ hcl hρ hsz hb gd
   go_simp
  ·refine(CT7.out w' _ _ _ _ (LO4.out.trans (hb.mono LO4.out.size)) hs21 (Ql.out.low hb)).mono ?_
   rintro e w2 ⟨A,c,rfl,hc,hs,bb⟩
   exact⟨_,rfl,hJ.pred hGS hcl hL rfl bb _ ⟨A,c,rfl,hs⟩⟩
 ·intro L a w' hL hsame hsz hJ AJ hcl
  have gd:valOf _ 18 a=.bool true:=hJ.valOf (by decide) (AY AJ 18 (by kernel_rfl)) rfl rfl
  have hb:=hJ.kept.toBelow (Nat.le_refl _) (by simp)
  obtain⟨A22',c22',hv22,hs22⟩:=(show(ByR [] 0) (valOf _ 22 a) w' from hJ.Bc (by decide) (AY AJ 22 (by kernel_rfl)) rfl)
  have e0:a.eval (.tmp 27)=.slice A22' 0 c22':=AQ (j:=22) (by kernel_rfl) hv22
  refine Step.val _ rfl rfl (Ao (g:=18) (b:=true) rfl gd) (.int .i64 0) w' (fun ρ hρ=>?_) (hJ.val hGS hcl hL rfl (Below.refl _ _) _ rfl)
  rw [hρ] at e0
  clear hJ hsame AJ hcl hρ hsz hb gd
  go_simp
 ·intro L a w' hL hsame hsz hJ AJ hcl
  have gd:valOf _ 18 a=.bool true:=hJ.valOf (by decide) (AY AJ 18 (by kernel_rfl)) rfl rfl
  have hb:=hJ.kept.toBelow (Nat.le_refl _) (by simp)
  have e0:a.eval (.tmp 28)=(.int .i64 0):=AQ (j:=23) (by kernel_rfl) (hJ.valOf (by decide) (AY AJ 23 (by kernel_rfl)) rfl rfl)
  refine Step.val _ rfl rfl (Ao (g:=18) (b:=true) rfl gd) (.bool true) w' (fun ρ hρ=>?_) (hJ.val hGS hcl hL rfl (Below.refl _ _) _ rfl)
  rw [hρ] at e0
  have ec0:ρ (.const (.int .i64 0))=(.int .i64 0):=(hρ _).symm
  clear hJ hsame AJ hcl hρ hsz hb gd
  go_simp
 ·intro L a w' hL hsame hsz hJ AJ hcl
  have hb:=hJ.kept.toBelow (Nat.le_refl _) (by simp)
  have e0:a.eval (.tmp 23)=(.bool true):=AQ (j:=18) (by kernel_rfl) (hJ.valOf (by decide) (AY AJ 18 (by kernel_rfl)) rfl rfl)
  have e1:a.eval (.tmp 29)=(.bool true):=AQ (j:=24) (by kernel_rfl) (hJ.valOf (by decide) (AY AJ 24 (by kernel_rfl)) rfl rfl)
  refine Step.val _ rfl rfl (AU rfl) (.bool true) w' (fun ρ hρ=>?_) (hJ.val hGS hcl hL rfl (Below.refl _ _) _ rfl)
  rw [hρ] at e0 e1
  have ec0:ρ (.const (.bool false))=(.bool false):=(hρ _).symm
  clear hJ hsame AJ hcl hρ hsz hb
  go_simp
 ·intro L a w' hL hsame hsz hJ AJ hcl
  have hb:=hJ.kept.toBelow (Nat.le_refl _) (by simp)
  have e0:a.eval (.tmp 30)=(.bool true):=AQ (j:=25) (by kernel_rfl) (hJ.valOf (by decide) (AY AJ 25 (by kernel_rfl)) rfl rfl)
  refine Step.val _ rfl rfl (AU rfl) (.bool true) w' (fun ρ hρ=>?_) (hJ.val hGS hcl hL rfl (Below.refl _ _) _ rfl)
  rw [hρ] at e0
  clear hJ hsame AJ hcl hρ hsz hb
  go_simp
 ·intro u w' hF
  change Exit.then _ _ Exit.normal (Act.put (Act.put (Act.put (Act.put (Act.put (Act.put (Act.put (Act.put (Act.put (Act.put (Act.put (Act.put (Act.put (Act.put (Act.put (Act.put (Act.put (Act.put (Act.put (Act.put (Act.put (Act.put (Act.put (Act.put (Act.put (Act.put (Act.put (Aq _ u 0 _) (some 5) (u 0)) (some 6) (u 1)) (some 7) (u 2)) (some 8) (u 3)) (some 9) (u 4)) (some 10) (u 5)) (some 11) (u 6)) (some 12) (u 7)) (some 13) (u 8)) (some 14) (u 9)) (some 15) (u 10)) (some 16) (u 11)) (some 17) (u 12)) (some 18) (u 13)) (some 19) (u 14)) (some 20) (u 15)) (some 21) (u 16)) (some 22) (u 17)) (some 23) (u 18)) (some 24) (u 19)) (some 25) (u 20)) (some 26) (u 21)) (some 27) (u 22)) (some 28) (u 23)) (some 29) (u 24)) (some 30) (u 25)) (some 0) (u 26)) _
  simp only [Aq]
  obtain f26:u 26=.bool true:=hF.Nu (j:=26) (by decide) rfl rfl
  have hk:=hF.kept.toBelow (Nat.le_refl _) (by simp)
  clear hF
  generalize u 0=y0
  generalize u 1=y1
  generalize u 2=y2
  generalize u 3=y3
  generalize u 4=y4
  generalize u 5=y5
  generalize u 6=y6
  generalize u 7=y7
  generalize u 8=y8
  generalize u 9=y9
  generalize u 10=y10
  generalize u 11=y11
  generalize u 12=y12
  generalize u 13=y13
  generalize u 14=y14
  generalize u 15=y15
  generalize u 16=y16
  generalize u 17=y17
  generalize u 18=y18
  generalize u 19=y19
  generalize u 20=y20
  generalize u 21=y21
  generalize u 22=y22
  generalize u 23=y23
  generalize u 24=y24
  generalize u 25=y25
  generalize u 26=y26 at f26⊢
  subst f26
  go_simp
  go_step
  go_wp2_with fail
  go_ret
  exact⟨rfl,LO4.out.trans (hk.mono LO4.out.size)⟩
end Go.Proofs.YtoaabebgmdbjeaaGreatDoor
namespace Go.Proofs.YtoaabebgmdbjeaaGreatDoor
open Go Go.RowKit
theorem Da (l:List Int):(strOfNums l).size=l.length:=by simp [strOfNums,ByteArray.size]
theorem D6 (l m:List Int):strOfNums l++strOfNums m=strOfNums (l++m):=by
 apply ByteArray.ext
 simp [strOfNums,ByteArray.data_append]
theorem jF: ∀(k n:Nat),k<=100->n<10 ^ (k+1)->n<=100000-> ∀w:World,Calls Tryz.prog 34 #[.int .i64 (n:Nat)] w fun e w'=>e=.returned (.string (strOfNums (PA.Dq k n)))/\Below w.heap.size w w':=by
 intro k
 induction k with
 | zero=>
  intro n hk hn hm w
  have h1:(n:Int)<10:=by omega
  have h0:0<=(n:Int):=by omega
  have cv:=Ed (w:=w.alloc (.cells #[.int .u8 (48+(n:Int))] 5)) (n:=1) (c:=1) (l:= [48+(n:Int)]) (Seen.DI (Box.new w 5 #[.int .u8 (48+(n:Int))]) rfl rfl (Box.new w 5 #[.int .u8 (48+(n:Int))]).lt)
  have hw:IntKind.u8.wrap (48+(n:Int))=48+(n:Int):=IntWalk.u8_in _ (by omega)
  go_enter Tryz.func34,Tryz.ntmps34
  go_wp2_with fail
  go_ret
  exact⟨rfl,(Below.refl w.heap.size w).alloc (Nat.le_refl _) _⟩
 | succ k ih=>
  intro n hk hn hm w
  unfold PA.Dq
  by_cases h:n<10
  ·rw [if_pos h]
   have h1:(n:Int)<10:=by omega
   have h0:0<=(n:Int):=by omega
   have cv:=Ed (w:=w.alloc (.cells #[.int .u8 (48+(n:Int))] 5)) (n:=1) (c:=1) (l:= [48+(n:Int)]) (Seen.DI (Box.new w 5 #[.int .u8 (48+(n:Int))]) rfl rfl (Box.new w 5 #[.int .u8 (48+(n:Int))]).lt)
   have hw:IntKind.u8.wrap (48+(n:Int))=48+(n:Int):=IntWalk.u8_in _ (by omega)
   go_enter Tryz.func34,Tryz.ntmps34
   go_wp2_with fail
   go_ret
   exact⟨rfl,(Below.refl w.heap.size w).alloc (Nat.le_refl _) _⟩
  ·rw [if_neg h]
   have h1: ¬(n:Int)<10:=by omega
   have h0:0<=(n:Int):=by omega
   have IH:=hide (fun w'=>ih (n / 10) (by omega) (by rw [Nat.div_lt_iff_lt_mul (by decide)];rw [Nat.pow_succ] at hn;exact hn) (by omega) w')
   obtain⟨q,hq⟩: ∃q:Nat,n / 10=q:=⟨_,rfl⟩
   obtain⟨r,hr⟩: ∃r:Nat,n%10=r:=⟨_,rfl⟩
   have hr9:r<=9:=by omega
   have hqI:(n:Int).tdiv 10=(q:Nat):=by rw [<- hq,Int.tdiv_eq_ediv_of_nonneg (by omega)];omega
   have hrI:(n:Int).tmod 10=(r:Nat):=by rw [<- hr,Int.tmod_eq_emod_of_nonneg (by omega)];omega
   rw [hq] at IH⊢
   rw [hr]
   have HQ:=hide (show IntKind.i64.wrap ((n:Int) / 10)=(q:Nat) by rw [IntWalk.i64_in _ (by omega)];omega)
   have HR:=hide hrI
   have hlen:(PA.Dq k q).length<=k+1:=Dz k q
   have hsz:(PA.Dq k q++ [48+(r:Int)]).length<=k+2:=by simp;omega
   have hw:IntKind.u8.wrap (48+(r:Int))=48+(r:Int):=IntWalk.u8_in _ (by omega)
   have hwi:IntKind.i64.wrap (48+(r:Int))=48+(r:Int):=IntWalk.i64_in _ (by omega)
   have SA:=hide (D6 (PA.Dq k q) [48+(r:Int)])
   have Z1:=hide (Da (PA.Dq k q))
   have Z2:=hide (Da [48+(r:Int)])
   have hD:(PA.Dq k q).length<=101:=by omega
   have HD:=hide hD
   generalize PA.Dq k q=D at*
   clear ih hq hr hn hm h hqI hrI hD hlen hsz
   go_enter Tryz.func34,Tryz.ntmps34
   go_upto_region 5 with fail
   refine Dl (n:=26) [] (fun _=> #[]) [(0,0,0,0,0),(0,0,0,0,0),(0,0,0,0,0),(0,0,0,0,0),(0,0,0,0,0),(0,0,0,0,0),(0,0,0,0,0),(1,0,0,0,0),(0,0,0,0,0),(0,0,0,0,0),(0,0,0,0,0)] (fun j=> [(.int .i64 (n:Nat)),(.int .i64 (q:Nat)),(.string (strOfNums D)),(.int .i64 (n:Nat)),(.int .i64 (r:Nat)),(.int .i64 (48+(r:Int))),(.int .u8 (48+(r:Int))),undef,(.string (strOfNums [48+(r:Int)])),(.string (strOfNums (D++ [48+(r:Int)]))),(.string (strOfNums (D++ [48+(r:Int)])))].getD j undef) [none,none,none,none,none,none,none,some (Hg 5 1 #[.int .u8 (48+(r:Int))])] (fun _=>0) (by kernel_rfl) (by kernel_rfl) (by kernel_rfl) rfl (by kernel_rfl) (Cy rfl) (fun i j h=>by revert h;exact Cy (p:=fun _=>_) rfl i) (Ag.none_ (Ag.none_ (Ag.none_ (Ag.none_ (Ag.none_ (Ag.none_ (Ag.none_ (Ag.some_ (Hg.stays (by kernel_rfl)) (Ag.nil _))))))))) (fun hGS=>JV ⟨?_,?_,?_,?_,?_,?_,?_,?_,?_,?_,?_⟩) ?_
   ·intro L a w' hL hsame hsz hJ AJ hcl
    have hb:=hJ.kept.toBelow (Nat.le_refl _) (by simp)
    have e0:a.eval (.tmp 0)=(.int .i64 (n:Nat)):=AZ hsame (by kernel_rfl)
    refine Step.val _ rfl rfl (AU rfl) (.int .i64 (n:Nat)) w' (fun ρ hρ=>?_) (hJ.val hGS hcl hL rfl (Below.refl _ _) _ rfl)
    rw [hρ] at e0
    clear hJ hsame AJ hcl hρ hsz hb
    go_simp
   ·intro L a w' hL hsame hsz hJ AJ hcl
    have hb:=hJ.kept.toBelow (Nat.le_refl _) (by simp)
    have e0:a.eval (.tmp 16)=(.int .i64 (n:Nat)):=AQ (j:=0) (by kernel_rfl) (hJ.valOf (by decide) (AY AJ 0 (by kernel_rfl)) rfl rfl)
    refine Step.val _ rfl rfl (AU rfl) (.int .i64 (q:Nat)) w' (fun ρ hρ=>?_) (hJ.val hGS hcl hL rfl (Below.refl _ _) _ rfl)
    rw [hρ] at e0
    have ec0:ρ (.const (.int .i64 10))=(.int .i64 10):=(hρ _).symm
    clear hJ hsame AJ hcl hρ hsz hb
    go_simp
    first | done | exact HQ.out | (rw [HQ.out])
   ·intro L a w' hL hsame hsz hJ AJ hcl
    have hb:=hJ.kept.toBelow (Nat.le_refl _) (by simp)
    have e0:a.eval (.tmp 17)=(.int .i64 (q:Nat)):=AQ (j:=1) (by kernel_rfl) (hJ.valOf (by decide) (AY AJ 1 (by kernel_rfl)) rfl rfl)
    refine Step.call _ rfl rfl (AU rfl) 34 #[.int .i64 (q:Nat)] (fun ρ hρ=>?_) ?_
    ·skip
     rw [hρ] at e0
     have ef:ρ (.func 34)=.func (.func 34) #[] #[] :=(hρ _).symm
     clear hJ hsame AJ hcl hρ hsz hb
     go_simp
    ·refine(IH.out w').mono ?_
     rintro e w2 ⟨rfl,bb⟩
     exact⟨_,rfl,hJ.val hGS hcl hL rfl bb _ rfl⟩
   ·intro L a w' hL hsame hsz hJ AJ hcl
    have hb:=hJ.kept.toBelow (Nat.le_refl _) (by simp)
    have e0:a.eval (.tmp 0)=(.int .i64 (n:Nat)):=AZ hsame (by kernel_rfl)
    refine Step.val _ rfl rfl (AU rfl) (.int .i64 (n:Nat)) w' (fun ρ hρ=>?_) (hJ.val hGS hcl hL rfl (Below.refl _ _) _ rfl)
    rw [hρ] at e0
    clear hJ hsame AJ hcl hρ hsz hb
    go_simp
   ·intro L a w' hL hsame hsz hJ AJ hcl
    have hb:=hJ.kept.toBelow (Nat.le_refl _) (by simp)
    have e0:a.eval (.tmp 19)=(.int .i64 (n:Nat)):=AQ (j:=3) (by kernel_rfl) (hJ.valOf (by decide) (AY AJ 3 (by kernel_rfl)) rfl rfl)
    refine Step.val _ rfl rfl (AU rfl) (.int .i64 (r:Nat)) w' (fun ρ hρ=>?_) (hJ.val hGS hcl hL rfl (Below.refl _ _) _ rfl)
    rw [hρ] at e0
    have ec0:ρ (.const (.int .i64 10))=(.int .i64 10):=(hρ _).symm
    clear hJ hsame AJ hcl hρ hsz hb
    go_simp
    first | done | exact HR.out | (rw [HR.out])
   ·intro L a w' hL hsame hsz hJ AJ hcl
    have hb:=hJ.kept.toBelow (Nat.le_refl _) (by simp)
    have e1:a.eval (.tmp 20)=(.int .i64 (r:Nat)):=AQ (j:=4) (by kernel_rfl) (hJ.valOf (by decide) (AY AJ 4 (by kernel_rfl)) rfl rfl)
    refine Step.val _ rfl rfl (AU rfl) (.int .i64 (48+(r:Int))) w' (fun ρ hρ=>?_) (hJ.val hGS hcl hL rfl (Below.refl _ _) _ rfl)
    rw [hρ] at e1
    have ec0:ρ (.const (.int .i64 48))=(.int .i64 48):=(hρ _).symm
    clear hJ hsame AJ hcl hρ hsz hb
    go_simp
   ·intro L a w' hL hsame hsz hJ AJ hcl
    have hb:=hJ.kept.toBelow (Nat.le_refl _) (by simp)
    have e0:a.eval (.tmp 21)=(.int .i64 (48+(r:Int))):=AQ (j:=5) (by kernel_rfl) (hJ.valOf (by decide) (AY AJ 5 (by kernel_rfl)) rfl rfl)
    refine Step.val _ rfl rfl (AU rfl) (.int .u8 (48+(r:Int))) w' (fun ρ hρ=>?_) (hJ.val hGS hcl hL rfl (Below.refl _ _) _ rfl)
    rw [hρ] at e0
    clear hJ hsame AJ hcl hρ hsz hb
    go_simp
   ·intro L a w' hL hsame hsz hJ AJ hcl
    have hb:=hJ.kept.toBelow (Nat.le_refl _) (by simp)
    have e0:a.eval (.tmp 22)=(.int .u8 (48+(r:Int))):=AQ (j:=6) (by kernel_rfl) (hJ.valOf (by decide) (AY AJ 6 (by kernel_rfl)) rfl rfl)
    refine Step.val _ rfl rfl (AU rfl) (.slice (some ⟨w'.heap.size,0,none⟩) 1 1) (w'.alloc (.cells #[.int .u8 (48+(r:Int))] 5)) (fun ρ hρ=>?_) (hJ.pred hGS hcl hL rfl ((Below.refl _ _).alloc (Nat.le_refl _) _) _ (⟨_,rfl,Box.new w' _ _⟩))
    rw [hρ] at e0
    clear hJ hsame AJ hcl hρ hsz hb
    go_simp
   ·intro L a w' hL hsame hsz hJ AJ hcl
    have hb:=hJ.kept.toBelow (Nat.le_refl _) (by simp)
    obtain⟨g7,hv7,hs7⟩:=(show(Hg 5 1 #[.int .u8 (48+(r:Int))]) (valOf _ 7 a) w' from hJ.Bc (by decide) (AY AJ 7 (by kernel_rfl)) rfl)
    have e0:a.eval (.tmp 23)=.slice (some ⟨g7,0,none⟩) 1 1:=AQ (j:=7) (by kernel_rfl) hv7
    refine Step.val _ rfl rfl (AU rfl) (.string (strOfNums [48+(r:Int)])) w' (fun ρ hρ=>?_) (hJ.val hGS hcl hL rfl (Below.refl _ _) _ rfl)
    rw [hρ] at e0
    clear hJ hsame AJ hcl hρ hsz hb
    have cv:=Ed (n:=1) (c:=1) (l:= [48+(r:Int)]) (Seen.DI (xs:=u8s [48+(r:Int)]) hs7 rfl rfl hs7.lt)
    go_simp
   ·intro L a w' hL hsame hsz hJ AJ hcl
    have hb:=hJ.kept.toBelow (Nat.le_refl _) (by simp)
    have e0:a.eval (.tmp 18)=(.string (strOfNums D)):=AQ (j:=2) (by kernel_rfl) (hJ.valOf (by decide) (AY AJ 2 (by kernel_rfl)) rfl rfl)
    have e1:a.eval (.tmp 24)=(.string (strOfNums [48+(r:Int)])):=AQ (j:=8) (by kernel_rfl) (hJ.valOf (by decide) (AY AJ 8 (by kernel_rfl)) rfl rfl)
    refine Step.val _ rfl rfl (AU rfl) (.string (strOfNums (D++ [48+(r:Int)]))) w' (fun ρ hρ=>?_) (hJ.val hGS hcl hL rfl (Below.refl _ _) _ rfl)
    rw [hρ] at e0 e1
    clear hJ hsame AJ hcl hρ hsz hb
    have sa:=SA.out
    have z1:=Z1.out
    have z2:=Z2.out
    have hD:=HD.out
    go_simp
    all_goals (first | done | (simp only [List.length_cons,List.length_nil] at z2;omega))
   ·intro L a w' hL hsame hsz hJ AJ hcl
    have hb:=hJ.kept.toBelow (Nat.le_refl _) (by simp)
    have e0:a.eval (.tmp 25)=(.string (strOfNums (D++ [48+(r:Int)]))):=AQ (j:=9) (by kernel_rfl) (hJ.valOf (by decide) (AY AJ 9 (by kernel_rfl)) rfl rfl)
    refine Step.val _ rfl rfl (AU rfl) (.string (strOfNums (D++ [48+(r:Int)]))) w' (fun ρ hρ=>?_) (hJ.val hGS hcl hL rfl (Below.refl _ _) _ rfl)
    rw [hρ] at e0
    clear hJ hsame AJ hcl hρ hsz hb
    go_simp
   ·intro u w' hF
    change Exit.then _ _ Exit.normal (Act.put (Act.put (Act.put (Act.put (Act.put (Act.put (Act.put (Act.put (Act.put (Act.put (Act.put (Aq _ u 0 _) (some 16) (u 0)) (some 17) (u 1)) (some 18) (u 2)) (some 19) (u 3)) (some 20) (u 4)) (some 21) (u 5)) (some 22) (u 6)) (some 23) (u 7)) (some 24) (u 8)) (some 25) (u 9)) (some 2) (u 10)) _
    simp only [Aq]
    obtain f10:u 10=.string (strOfNums (D++ [48+(r:Int)])):=hF.Nu (j:=10) (by decide) rfl rfl
    have hk:=hF.kept.toBelow (Nat.le_refl _) (by simp)
    clear hF
    generalize u 0=y0
    generalize u 1=y1
    generalize u 2=y2
    generalize u 3=y3
    generalize u 4=y4
    generalize u 5=y5
    generalize u 6=y6
    generalize u 7=y7
    generalize u 8=y8
    generalize u 9=y9
    generalize u 10=y10 at f10⊢
    subst f10
    go_simp
    go_step
    go_wp2_with fail
    go_ret
    exact⟨rfl,hk⟩
theorem K5 (n:Nat) (h:n<=100000) (w:World):Calls Tryz.prog 34 #[.int .i64 (n:Nat)] w fun e w'=>e=.returned (.string (strOfNums (PA.Cj n)))/\Below w.heap.size w w':=
 jF 20 n (by omega) (Nat.lt_of_le_of_lt h (by decide)) h w
end Go.Proofs.YtoaabebgmdbjeaaGreatDoor
