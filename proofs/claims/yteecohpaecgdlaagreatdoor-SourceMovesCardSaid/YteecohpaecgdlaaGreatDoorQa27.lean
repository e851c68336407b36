/- A part of the proof: SourceMoves, SourceMovesAny. -/
import Derived.Test.YteecohpaecgdlaaGreatDoorQa26
set_option maxRecDepth 100000
set_option maxHeartbeats 16000000
set_option linter.unusedVariables false
namespace Go.Proofs.YteecohpaecgdlaaGreatDoor
open Go Go.RowKit
theorem Oj (kcs:Array Value) (wt n1 m1:Int) (i p q c:Nat) (S:SN.Sc) (w:World) (hk13:kcs.size=13) (hS:SN.Ad S) (hR5:S.g.rows<=5) (hK9:S.g.AB<=9) (hT:Gb w) (ht:Ez w) (hi:i<=9) (hp:p<=70) (hq:q<=70) (hc1:1<=c) (hc9:c<=9)
  (KS:Hid (∀w',Below w.heap.size w w'->Calls Tryz.prog 17 #[.agg kcs] w' (Ay w' S)))
  (WI:Hid (∀w',Calls Tryz.prog 25 #[.int .i64 wt,.int .i64 0,.int .i64 9] w' fun e w''=>e=.returned (.int .i64 (i:Nat))/\w'=w''))
  (WN:Hid (∀w',Calls Tryz.prog 25 #[.int .i64 n1,.int .i64 0,.int .i64 70] w' fun e w''=>e=.returned (.int .i64 (p:Nat))/\w'=w''))
  (WM:Hid (∀w',Calls Tryz.prog 25 #[.int .i64 m1,.int .i64 0,.int .i64 70] w' fun e w''=>e=.returned (.int .i64 (q:Nat))/\w'=w''))
  (WC:Hid (∀w',Calls Tryz.prog 25 #[.int .i64 n1,.int .i64 1,.int .i64 9] w' fun e w''=>e=.returned (.int .i64 (c:Nat))/\w'=w'')):
  Calls Tryz.prog 8 #[.agg kcs,.int .i64 wt,.int .i64 n1,.int .i64 m1] w fun e w'=>e=.returned (.bool true)/\Below w.heap.size w w':=by
 have RS:=hide hS
 have hN:S.g.rows*S.g.AB<=45:=Nat.mul_le_mul hR5 hK9
 have HN:=hide (show S.g.rows*S.g.AB<=1099511627776 by omega)
 have HT:=hide hT
 have HTB:=hide ht
 have LO0:=hide (Below.refl w.heap.size w)
 obtain⟨fn,hfn⟩: ∃f:Int,([65,66,67,68,69,70,71,100,72,102] :List Int).getD i 0=f:=⟨_,rfl⟩
 have hmv:SN.Qu fn:=by
  subst hfn
  unfold SN.Qu
  obtain rfl | rfl | rfl | rfl | rfl | rfl | rfl | rfl | rfl | rfl:i=0\/i=1\/i=2\/i=3\/i=4\/i=5\/i=6\/i=7\/i=8\/i=9:=by omega
  all_goals simp
 have EF:=hide hfn
 obtain⟨r0,c0,hat⟩:=SN.TR S hmv [(p:Int),(q:Int)]
 obtain⟨r1,c1',vL⟩:=SN.TR (SN.Gz S) hmv []
 obtain⟨T,hTT⟩: ∃T,SN.doS S 4 0 0 0 fn [(p:Int),(q:Int)] =T:=⟨_,rfl⟩
 have RT:=hide (hTT▸SN.IV hS 4 0 0 0 fn [(p:Int),(q:Int)] :SN.Ad T)
 have eT:T=SN.atS S r0 c0:=hTT.symm.trans hat
 have ETG:=hide (show T.g=S.g by rw [eT];rfl)
 have ETP:=hide (show T.pend=false by rw [eT];rfl)
 have ETB:=hide (show(((T.u3 S.row).u4 S.col).u5 S.pend)=S by rw [eT];rfl)
 have DO:=hide (fun w' v' g (hw:Below w.heap.size w w') (hb:Box w' g 3 #[.int .i64 (p:Nat),.int .i64 (q:Nat)]) h=>hTT▸Mt S v' 4 fn [(p:Int),(q:Int)] 2 g w' hS rfl (by omega) (fun x hx=>by simp at hx;omega) (by omega) (hT.keep hw) hb h)
 obtain⟨U,hU⟩: ∃U,SN.Cb S [ev0 4 67 [(c:Int)],ev0 4 68 [(c:Int)]] =U:=⟨_,rfl⟩
 have EUC:=hide (fun (h:S.col+c<=S.g.AB-1)=>(show U.col=S.col from hU▸SN.Vo hS c h hc1 hc9))
 have AL:=hide (fun w' v' g1 g2 g3 (hw:Below w.heap.size w w') (h1:Box w' g1 3 #[.int .i64 (c:Nat)]) (h2:Box w' g2 3 #[.int .i64 (c:Nat)]) (h3:Box w' g3 49 #[.int .i64 4,.int .i32 0,.int .u8 0,.int .u8 0,.int .u8 67,.slice (some ⟨g1,0,none⟩) 1 1,.string {data:= #[]},.int .i64 4,.int .i32 0,.int .u8 0,.int .u8 0,.int .u8 68,.slice (some ⟨g2,0,none⟩) 1 1,.string {data:= #[]}]) h=>
  hU▸Qr S v' (some ⟨g3,0,none⟩) 2 2 [(ev0 4 67 [(c:Int)],.slice (some ⟨g1,0,none⟩) 1 1),(ev0 4 68 [(c:Int)],.slice (some ⟨g2,0,none⟩) 1 1)] w' hS (P5 h3 rfl rfl (fun p hp=>by simp at hp;rcases hp with rfl | rfl;exact Pz h1;exact Pz h2)) (by omega) (Nat.le_refl _)
   (fun p hp=>by simp at hp;rcases hp with rfl | rfl<;>exact TS (by omega) (by simp) (fun x hx=>by simp at hx;omega)) (fun p hp=>by simp at hp;rcases hp with rfl | rfl<;>exact fF (Nat.le_refl _)) (hT.keep hw) h)
 obtain⟨V,hV⟩: ∃V,SN.Cb S [ev0 3 55 [],ev0 4 fn [],ev0 3 56 []] =V:=⟨_,rfl⟩
 have eV:V=(SN.Gz S).u5 false:=by
  rw [<- hV]
  show SN.J8 (SN.doS (SN.Gz S) 4 0 0 0 fn [])=_
  rw [vL]
  exact SN.YA hS r1 c1'
 have EVR:=hide (show V.row=S.row by rw [eV];rfl)
 have EVC:=hide (show V.col=S.col by rw [eV];rfl)
 have AV:=hide (fun w' v' g3 (hw:Below w.heap.size w w') (h3:Box w' g3 49 #[.int .i64 3,.int .i32 0,.int .u8 0,.int .u8 0,.int .u8 55,.slice none 0 0,.string {data:= #[]},.int .i64 4,.int .i32 0,.int .u8 0,.int .u8 0,.int .u8 fn,.slice none 0 0,.string {data:= #[]},.int .i64 3,.int .i32 0,.int .u8 0,.int .u8 0,.int .u8 56,.slice none 0 0,.string {data:= #[]}]) h=>
  hV▸Qr S v' (some ⟨g3,0,none⟩) 3 3 [(ev0 3 55 [],.slice none 0 0),(ev0 4 fn [],.slice none 0 0),(ev0 3 56 [],.slice none 0 0)] w' hS (P5 h3 rfl rfl (fun p hp=>by simp at hp;rcases hp with rfl | rfl | rfl<;>exact Zc)) (by omega) (Nat.le_refl _)
   (fun p hp=>by simp at hp;rcases hp with rfl | rfl | rfl<;>exact TS (by omega) (by simp) (fun x hx=>by cases hx)) (fun p hp=>by simp at hp;rcases hp with rfl | rfl | rfl<;>exact fF (Nat.le_refl _)) (hT.keep hw) h)
 have hcolR:=hS.col
 have hK1:=hS.g.2.2.1
 clear hT ht hfn hmv hat vL hTT eT hU hV eV hS
 go_enter Tryz.func8,Tryz.ntmps8
 go_wp2_with (first | (refine Hf hk13 rfl _ rfl rfl ?_;intro gk wk hKB hbk hlk) | (refine F6 hKB rfl _ rfl rfl ?_))
 have LO1:=hide (LO0.out.trans (hbk.mono LO0.out.size))
 clear LO0 hbk
 refine(KS.out _ LO1.out).mono ?_
 rintro e wb1 ⟨v1,rfl,⟨x1,rfl,hg1⟩,hb1⟩
 have LO2:=hide (LO1.out.trans (hb1.mono LO1.out.size))
 clear LO1 hb1
 obtain⟨A1,c1,rfl⟩:=Af hg1
 have TV:=hide hg1
 clear hg1
 go_upto_region 2 with (first | (refine BG rfl rfl ?_;intro gs qg qh J5 Vk Jf Vl) | (refine AQ J5 Vk rfl _ _ rfl rfl rfl rfl ?_;intro D9 OH Jg Vm))
 have fU:w.heap.size<=gs:=by have:=LO2.out.size;omega
 have TW:=hide (TV.out.low Jf)
 have LO3:=hide (LO2.out.trans (Jf.mono LO2.out.size))
 clear TV LO2 Jf
 have OO:=hide (TW.out.kept J5 (by decide) Jg)
 have LO4:=hide (LO3.out.trans (Jg.toBelow LO3.out.size (fun k hh=>by simp at hh;omega)))
 clear TW LO3
 have Iw:=hide OH
 clear OH Jg J5 Vl
 clear Vm
 go_simp
 go_cut [10] from 18 to 20 (fun u wx=>u=.int .u8 fn/\wx=D9)
 case first=>
  obtain rfl | rfl | rfl | rfl | rfl | rfl | rfl | rfl | rfl | rfl:i=0\/i=1\/i=2\/i=3\/i=4\/i=5\/i=6\/i=7\/i=8\/i=9:=by omega
  all_goals
   have ef:=EF.out
   simp at ef
   subst ef
   go_wp2_with fail
   refine(WI.out _).mono ?_
   rintro e w' ⟨rfl,rfl⟩
   go_wp2_with fail
   go_meet
   exact⟨rfl,rfl⟩
 case rest=>
  obtain⟨rfl,hw⟩:=hcut
  subst hw
  rename World=>D9
  go_upto_region 3 with fail
  go_simp
  go_cut [11] from 11 to 29 (fun ua wx=> ∃gt A3 c3,ua=.pointer (some ⟨gt,0,none⟩)/\D9.heap.size<=gt/\Am wx gt (.slice A3 (T.g.rows*T.g.AB) c3) T/\IsG wx T.g (gv T.g.rows T.g.AB (.slice A3 (T.g.rows*T.g.AB) c3))/\Below D9.heap.size D9 wx)
  case first=>
   refine DI (n:=104) [] (fun _=> #[]) [(0,0,0,0,0),(0,0,0,0,0),(0,0,0,0,0),(0,0,0,0,0),(0,0,0,0,0),(0,0,0,0,0),(1,0,0,0,0),(1,0,0,0,0),(1,0,0,0,0),(2,0,0,34,29),(3,9,8,34,29)] (fun j=> [(.agg (scA (.slice A1 (S.g.rows*S.g.AB) c1) S)),(.int .u8 fn),(.int .i64 n1),(.int .i64 (p:Nat)),(.int .i64 m1),(.int .i64 (q:Nat)),undef,undef,undef,undef,undef].getD j undef) [none,none,none,none,none,none,some (QT 3 2 #[.int .i64 (p:Nat),.int .i64 (q:Nat)]),some (EvN 4 fn 2 #[.int .i64 (p:Nat),.int .i64 (q:Nat)]),some (EJ T)] (fun _=>0) (by kernel_rfl) (by kernel_rfl) (by kernel_rfl) rfl (by kernel_rfl) (Cy rfl) (fun i j h=>by revert h;exact Cy (p:=fun _=>_) rfl i) (Aj.none_ (Aj.none_ (Aj.none_ (Aj.none_ (Aj.none_ (Aj.none_ (Aj.some_ (QT.stays (by kernel_rfl)) (Aj.some_ (EvN.stays (by kernel_rfl)) (Aj.some_ (EJ.stays (by kernel_rfl)) (Aj.nil _)))))))))) (fun hGS=>Kq ⟨?_,?_,?_,?_,?_,?_,?_,?_,?_,?_,?_⟩) ?_
   ·intro L a w' hL hsame hsz hJ AJ hcl
    have hb:=hJ.kept.toBelow (Nat.le_refl _) (by simp)
    have e0:a.eval (.tmp 9)=(.pointer (some ⟨gs,0,none⟩)):=Ab hsame (by kernel_rfl)
    have hx:=hJ.Ah ((show Box _ gs 34 (scA (.slice A1 (S.g.rows*S.g.AB) c1) S) from Iw.out)) (by simp)
    exact Step.val _ rfl rfl (AY rfl) (.agg (scA (.slice A1 (S.g.rows*S.g.AB) c1) S)) w' (fun ρ hρ=>BL hx rfl ρ _ rfl ((hρ _).symm.trans e0)) (hJ.val hGS hcl hL rfl (Below.refl _ _) _ rfl)
   ·intro L a w' hL hsame hsz hJ AJ hcl
    refine Ao hJ hGS hcl hL 10 (.int .u8 fn) (.int .u8 fn) (Ab hsame (by kernel_rfl)) _ rfl rfl rfl rfl rfl fun ρ _ e0=>?_
    clear hJ hsame AJ hcl hsz
    go_simp
   ·intro L a w' hL hsame hsz hJ AJ hcl
    refine Ao hJ hGS hcl hL 2 (.int .i64 n1) (.int .i64 n1) (Ab hsame (by kernel_rfl)) _ rfl rfl rfl rfl rfl fun ρ _ e0=>?_
    clear hJ hsame AJ hcl hsz
    go_simp
   ·intro L a w' hL hsame hsz hJ AJ hcl
    have hb:=hJ.kept.toBelow (Nat.le_refl _) (by simp)
    have e0:a.eval (.tmp 23)=(.int .i64 n1):=AU (j:=2) (by kernel_rfl) (hJ.valOf (by decide) (AZ AJ 2 (by kernel_rfl)) rfl rfl)
    refine Step.call _ rfl rfl (AY rfl) 25 #[.int .i64 n1,.int .i64 0,.int .i64 70] (fun ρ hρ=>?_) ?_
    ·skip
     rw [hρ] at e0
     have ec0:ρ (.const (.int .i64 0))=(.int .i64 0):=(hρ _).symm
     have ec1:ρ (.const (.int .i64 70))=(.int .i64 70):=(hρ _).symm
     have ef:ρ (.func 25)=.func (.func 25) #[] #[] :=(hρ _).symm
     clear hJ hsame AJ hcl hρ hsz hb
     go_simp
    ·refine(WN.out _).mono ?_
     rintro e w2 ⟨rfl,rfl⟩
     exact⟨_,rfl,hJ.val hGS hcl hL rfl (Below.refl _ _) _ rfl⟩
   ·intro L a w' hL hsame hsz hJ AJ hcl
    refine Ao hJ hGS hcl hL 3 (.int .i64 m1) (.int .i64 m1) (Ab hsame (by kernel_rfl)) _ rfl rfl rfl rfl rfl fun ρ _ e0=>?_
    clear hJ hsame AJ hcl hsz
    go_simp
   ·intro L a w' hL hsame hsz hJ AJ hcl
    have hb:=hJ.kept.toBelow (Nat.le_refl _) (by simp)
    have e0:a.eval (.tmp 25)=(.int .i64 m1):=AU (j:=4) (by kernel_rfl) (hJ.valOf (by decide) (AZ AJ 4 (by kernel_rfl)) rfl rfl)
    refine Step.call _ rfl rfl (AY rfl) 25 #[.int .i64 m1,.int .i64 0,.int .i64 70] (fun ρ hρ=>?_) ?_
    ·skip
     rw [hρ] at e0
     have ec0:ρ (.const (.int .i64 0))=(.int .i64 0):=(hρ _).symm
     have ec1:ρ (.const (.int .i64 70))=(.int .i64 70):=(hρ _).symm
     have ef:ρ (.func 25)=.func (.func 25) #[] #[] :=(hρ _).symm
     clear hJ hsame AJ hcl hρ hsz hb
     go_simp
    ·refine(WM.out _).mono ?_
     rintro e w2 ⟨rfl,rfl⟩
     exact⟨_,rfl,hJ.val hGS hcl hL rfl (Below.refl _ _) _ rfl⟩
   ·intro L a w' hL hsame hsz hJ AJ hcl
    have hb:=hJ.kept.toBelow (Nat.le_refl _) (by simp)
    have e0:a.eval (.tmp 24)=(.int .i64 (p:Nat)):=AU (j:=3) (by kernel_rfl) (hJ.valOf (by decide) (AZ AJ 3 (by kernel_rfl)) rfl rfl)
    have e1:a.eval (.tmp 26)=(.int .i64 (q:Nat)):=AU (j:=5) (by kernel_rfl) (hJ.valOf (by decide) (AZ AJ 5 (by kernel_rfl)) rfl rfl)
    refine Step.val _ rfl rfl (AY rfl) (.slice (some ⟨w'.heap.size,0,none⟩) 2 2) (w'.alloc (.cells #[.int .i64 (p:Nat),.int .i64 (q:Nat)] 3)) (fun ρ hρ=>?_) (hJ.pred hGS hcl hL rfl ((Below.refl _ _).alloc (Nat.le_refl _) _) _ (⟨_,rfl,Box.new w' _ _⟩))
    rw [hρ] at e0 e1
    clear hJ hsame AJ hcl hρ hsz hb
    go_simp
   ·intro L a w' hL hsame hsz hJ AJ hcl
    have hb:=hJ.kept.toBelow (Nat.le_refl _) (by simp)
    have e1:a.eval (.tmp 22)=(.int .u8 fn):=AU (j:=1) (by kernel_rfl) (hJ.valOf (by decide) (AZ AJ 1 (by kernel_rfl)) rfl rfl)
    obtain⟨g6,hv6,hs6⟩:=(show(QT 3 2 #[.int .i64 (p:Nat),.int .i64 (q:Nat)]) (valOf _ 6 a) w' from hJ.Cq (by decide) (AZ AJ 6 (by kernel_rfl)) rfl)
    have e2:a.eval (.tmp 27)=.slice (some ⟨g6,0,none⟩) 2 2:=AU (j:=6) (by kernel_rfl) hv6
    refine Step.val _ rfl rfl (AY rfl) (.agg #[.int .i64 4,.int .i32 0,.int .u8 0,.int .u8 0,.int .u8 fn,.slice (some ⟨g6,0,none⟩) 2 2,.string {data:= #[]}]) (w') (fun ρ hρ=>?_) (hJ.pred hGS hcl hL rfl (Below.refl _ _) _ (⟨g6,rfl,hs6⟩))
    rw [hρ] at e1 e2
    have ec0:ρ (.const (.int .i64 4))=(.int .i64 4):=(hρ _).symm
    clear hJ hsame AJ hcl hρ hsz hb
    go_simp
   ·intro L a w' hL hsame hsz hJ AJ hcl
    have hb:=hJ.kept.toBelow (Nat.le_refl _) (by simp)
    have e0:a.eval (.tmp 21)=(.agg (scA (.slice A1 (S.g.rows*S.g.AB) c1) S)):=AU (j:=0) (by kernel_rfl) (hJ.valOf (by decide) (AZ AJ 0 (by kernel_rfl)) rfl rfl)
    obtain⟨g7,hv7,hs7⟩:=(show(EvN 4 fn 2 #[.int .i64 (p:Nat),.int .i64 (q:Nat)]) (valOf _ 7 a) w' from hJ.Cq (by decide) (AZ AJ 7 (by kernel_rfl)) rfl)
    have e1:a.eval (.tmp 28)=.agg #[.int .i64 4,.int .i32 0,.int .u8 0,.int .u8 0,.int .u8 fn,.slice (some ⟨g7,0,none⟩) 2 2,.string {data:= #[]}] :=AU (j:=7) (by kernel_rfl) hv7
    refine Step.call _ rfl rfl (AY rfl) 21 #[.agg (scA (.slice A1 (S.g.rows*S.g.AB) c1) S),.agg #[.int .i64 4,.int .i32 0,.int .u8 0,.int .u8 0,.int .u8 fn,.slice (some ⟨g7,0,none⟩) 2 2,.string {data:= #[]}]] (fun ρ hρ=>?_) ?_
    ·skip
     rw [hρ] at e0 e1
     have ef:ρ (.func 21)=.func (.func 21) #[] #[] :=(hρ _).symm
     clear hJ hsame AJ hcl hρ hsz hb
     go_simp
    ·refine(DO.out _ _ _ (LO4.out.trans (hb.mono LO4.out.size)) hs7 ⟨_,rfl,(OO.out.low hb)⟩).mono ?_
     rintro e w2 ⟨v,rfl,hi,bb⟩
     exact⟨_,rfl,hJ.pred hGS hcl hL rfl bb _ (FP hi)⟩
   ·intro L a w' hL hsame hsz hJ AJ hcl
    have hb:=hJ.kept.toBelow (Nat.le_refl _) (by simp)
    refine Step.val _ rfl rfl (AY rfl) (.pointer (some ⟨w'.heap.size,0,none⟩)) (w'.alloc (.cells #[.int .i64 0,.int .i64 0,.slice none 0 0,.int .i64 0,.int .i64 0,.bool false,.int .i64 0,.int .i64 0,.int .i64 0,.int .i64 0,.int .i64 0,.int .u64 0,.int .u8 0,.int .u8 0,.int .i64 0,.bool false,.bool false,.bool false,.bool false,.bool false,.int .i64 0,.int .i64 0,.int .i64 0,.int .i64 0,.int .i64 0,.int .u8 0,.int .u8 0,.int .i64 0,.bool false] 34)) (fun ρ hρ=>?_) (hJ.box hGS hcl hL rfl 34 rfl #[.int .i64 0,.int .i64 0,.slice none 0 0,.int .i64 0,.int .i64 0,.bool false,.int .i64 0,.int .i64 0,.int .i64 0,.int .i64 0,.int .i64 0,.int .u64 0,.int .u8 0,.int .u8 0,.int .i64 0,.bool false,.bool false,.bool false,.bool false,.bool false,.int .i64 0,.int .i64 0,.int .i64 0,.int .i64 0,.int .i64 0,.int .u8 0,.int .u8 0,.int .i64 0,.bool false] rfl)
    clear hJ hsame AJ hcl hρ hsz hb
    go_simp
   ·intro L a w' hL hsame hsz hJ AJ hcl
    have hb:=hJ.kept.toBelow (Nat.le_refl _) (by simp)
    obtain⟨A8',c8',hv8,hi8⟩:=(show(EJ T) (valOf _ 8 a) w' from hJ.Cq (by decide) (AZ AJ 8 (by kernel_rfl)) rfl)
    have es:a.eval (.tmp 29)=.agg (scA (.slice A8' (T.g.rows*T.g.AB) c8') T):=AU (j:=8) (by kernel_rfl) hv8
    have la:=AZ AJ 9 (by kernel_rfl)
    obtain⟨g,cs,hg,hg0,hx,hs⟩:=hJ.WE (j:=9) (by decide) la rfl
    have ea:a.eval (.tmp 11)=.pointer (some ⟨g,0,none⟩):=AU (j:=9) (by kernel_rfl) hg
    exact Step.skip _ rfl (AY rfl) _ (fun ρ hρ=>OM hx hs rfl (WY rfl _) ρ _ rfl ((hρ _).symm.trans ea) ((hρ _).symm.trans es)) (hJ.put hGS hcl hL rfl la (AZ AJ 8 (by kernel_rfl)) hg rfl hv8)
   ·intro u w' hF
    change Exit.then _ _ Exit.normal (Act.put (Act.put (Act.put (Act.put (Act.put (Act.put (Act.put (Act.put (Act.put (Act.put (Act.put (Aw _ u 0 _) (some 21) (u 0)) (some 22) (u 1)) (some 23) (u 2)) (some 24) (u 3)) (some 25) (u 4)) (some 26) (u 5)) (some 27) (u 6)) (some 28) (u 7)) (some 29) (u 8)) (some 11) (u 9)) none (u 10)) _
    simp only [Aw]
    obtain⟨Aa,ca,fa,hia⟩:=(show EJ T (u 8) w' from hF.fin1 (j:=8) (by decide) rfl)
    obtain⟨ga,csa,va,la,_,_⟩:=(hF.all 9 (by decide) rfl).2.2.1 rfl
    obtain⟨ga0,csa',va',fsa,hBa⟩:=(hF.all 10 (by decide) rfl).2.2.2.1 rfl
    obtain rfl:ga0=ga:=by
     have:=va'.symm.trans va
     cases this
     rfl
    obtain rfl:csa'=scA (.slice Aa (T.g.rows*T.g.AB) ca) T:=by
     have:=fsa.symm.trans fa
     cases this
     rfl
    have hk:=hF.kept.toBelow (Nat.le_refl _) (by simp)
    clear hF va' fsa
    generalize u 0=y0
    generalize u 1=y1
    generalize u 2=y2
    generalize u 3=y3
    generalize u 4=y4
    generalize u 5=y5
    generalize u 6=y6
    generalize u 7=y7
    generalize u 8=y8 at fa⊢
    generalize u 9=y9 at va⊢
    generalize u 10=y10
    subst fa va
    go_simp
    go_step
    go_meet
    exact⟨ga0,Aa,ca,rfl,la,hBa,hia,hk⟩
  case rest=>
   obtain⟨gt,A3,c3,rfl,lgt,JD,vM,hb3⟩:=hcut
   have IZ:gs≠gt:=by have:=Iw.out.lt;omega
   have gF:w.heap.size<=gt:=by have:=LO4.out.size;omega
   have Iy:=hide (Iw.out.below hb3 Iw.out.lt)
   have Ta:=hide (OO.out.low hb3)
   have LO5:=hide (LO4.out.trans (hb3.mono LO4.out.size))
   clear Iw OO LO4 hb3
   have LP:=hide JD
   clear JD
   have Tc:=hide vM
   clear vM
   rename World=>wr3
   clear lgt
   have hst:=LP.out
   have hgt:=Tc.out
   rw [ETG.out] at hst hgt
   clear LP Tc
   have Es:=hide hst
   clear hst
   have Td:=hide hgt
   clear hgt
   go_upto_region 4 with fail
   go_upto_region 5 with (first | (refine BG rfl rfl ?_;intro gb_ wagb_ csgb_ XB vN P7 vO) | (refine AQ XB vN rfl _ _ rfl rfl rfl rfl ?_;intro nN nO P8 vQ) | (refine AX Es.out rfl _ rfl rfl ?_))
   have P9:gs≠gb_:=by have:=Iy.out.lt;omega
   have QA:gt≠gb_:=by have:=Es.out.lt;omega
   have le_gb_:w.heap.size<=gb_:=by have:=LO5.out.size;omega
   have OI:=hide (Iy.out.below P7 Iy.out.lt)
   have Gf:=hide (Es.out.below P7 Es.out.lt)
   have Te:=hide (Ta.out.low P7)
   have Tf:=hide (Td.out.low P7)
   have LO6:=hide (LO5.out.trans (P7.mono LO5.out.size))
   clear Iy Es Ta Td LO5 P7
   have Gp:=hide (OI.out.kept P8 (by simp;first | exact P9 | exact Ne.symm Zd))
   have L6:=hide (Gf.out.kept P8 (by simp;first | exact QA | exact Ne.symm Ze))
   have Tg:=hide (Te.out.kept XB (by decide) P8)
   have Qv:=hide (Tf.out.kept XB (by decide) P8)
   have LO7:=hide (LO6.out.trans (P8.toBelow LO6.out.size (fun k hh=>by simp at hh;omega)))
   clear OI Gf Te Tf LO6
   have Ol:=hide nO
   clear nO P8 XB vO
   clear vQ
   go_simp
   have Gg:=(show _=some (.int .i64 (S.row:Nat):Value) from Gp.out.c3)
   have Gh:=(show _=some (.int .i64 (S.col:Nat):Value) from Gp.out.c4)
   have qp:=(show _=some (.bool S.pend:Value) from Gp.out.c5)
   have mI:=(show _=some (.int .i64 (T.row:Nat):Value) from Ol.out.c3)
   have mJ:=(show _=some (.int .i64 (T.col:Nat):Value) from Ol.out.c4)
   have mK:=(show _=some (.bool T.pend:Value) from Ol.out.c5)
   have mM:=Ol.out.fz 3
   have mO:=Ol.out.fz 4
   have mP:=Ol.out.fz 5
   go_cut [] from 31 to 39 (fun wx=>Am wx gb_ (.slice A3 (S.g.rows*S.g.AB) c3) S/\Kept [some gb_] nN wx)
   case first=>
    go_region
    all_goals
     go_wp2_with fail
     go_meet
     exact⟨by have hbx:Am _ gb_ (.slice A3 (S.g.rows*S.g.AB) c3) (((T.u3 S.row).u4 S.col).u5 S.pend):=Box.drew (((Ol.out.Ci S.row).X6 S.col).KL S.pend);rw [ETB.out] at hbx;exact hbx,((((Kept.refl [some gb_] nN).setCell (p:=⟨gb_,3,none⟩) (From.mem (by simp)) _).setCell (p:=⟨gb_,4,none⟩) (From.mem (by simp)) _).setCell (p:=⟨gb_,5,none⟩) (From.mem (by simp)) _).drew⟩
   case rest=>
    obtain⟨hBb,hkb⟩:=hcut
    rename World=>wc5
    clear Gg Gh qp mI mJ mK mM mO mP
    have Ia:=hide (Gp.out.kept hkb (by simp;first | exact P9 | exact Ne.symm Zd))
    have Ie:=hide (L6.out.kept hkb (by simp;first | exact QA | exact Ne.symm Ze))
    have Qw:=hide (Tg.out.kept Ol.out (by decide) hkb)
    have OP:=hide (Qv.out.kept Ol.out (by decide) hkb)
    have LO8:=hide (LO7.out.trans (hkb.toBelow LO7.out.size (fun k hh=>by simp at hh;omega)))
    clear Gp L6 Tg Qv LO7
    have qx:=hide hBb
    clear hBb hkb Ol
    go_upto_region 6 with fail
    go_wp2_with (first | (refine AX Ie.out rfl _ rfl rfl ?_))
    refine(P6 T _ RT.out _ (by rw [ETG.out];exact OP.out) ((HT.out.keep LO8.out).spans)).mono ?_
    rintro e wq1 ⟨rfl,hq1⟩
    have Gq:=hide (Ia.out.below hq1 Ia.out.lt)
    have LQ:=hide (Ie.out.below hq1 Ie.out.lt)
    have mQ:=hide (qx.out.below hq1 qx.out.lt)
    have OQ:=hide (Qw.out.low hq1)
    have Om:=hide (OP.out.low hq1)
    have LO9:=hide (LO8.out.trans (hq1.mono LO8.out.size))
    clear Ia Ie qx Qw OP LO8 hq1
    have Vq:=(show _=some (.bool false:Value) from(LQ.out.c5).trans (by first | (rw [ETP.out];done) | (rw [ETP.out];rfl)))
    go_wp2_with (first | (refine IQ mQ.out _ rfl (by rfl) rfl ?_) | (refine IQ Gq.out _ rfl (by rfl) rfl ?_))
    clear Vq
    refine(N8 S _ _ _ _ _ HN.out Om.out OQ.out).mono ?_
    rintro e wq2 ⟨rfl,hq2⟩
    have Ib:=hide (Gq.out.below hq2 Gq.out.lt)
    have Vr:=hide (LQ.out.below hq2 LQ.out.lt)
    have qy:=hide (mQ.out.below hq2 mQ.out.lt)
    have OT:=hide (OQ.out.low hq2)
    have L9:=hide (Om.out.low hq2)
    have I5:=hide (LO9.out.trans (hq2.mono LO9.out.size))
    clear Gq LQ mQ OQ Om LO9 hq2
    go_wp2_with fail
    refine(WC.out _).mono ?_
    rintro e w' ⟨rfl,rfl⟩
    go_upto_region 9 with fail
    have hx1:Box (((wq2.alloc (.cells #[.int .i64 (c:Nat)] 3)).alloc (.cells #[.int .i64 (c:Nat)] 3)).alloc (.cells #[.int .i64 4,.int .i32 0,.int .u8 0,.int .u8 0,.int .u8 67,.slice (some ⟨wq2.heap.size,0,none⟩) 1 1,.string {data:= #[]},.int .i64 4,.int .i32 0,.int .u8 0,.int .u8 0,.int .u8 68,.slice (some ⟨wq2.heap.size+1,0,none⟩) 1 1,.string {data:= #[]}] 49)) wq2.heap.size 3 #[.int .i64 (c:Nat)] :=((Box.new wq2 3 #[.int .i64 (c:Nat)]).alloc _).alloc _
    have hx2:Box (((wq2.alloc (.cells #[.int .i64 (c:Nat)] 3)).alloc (.cells #[.int .i64 (c:Nat)] 3)).alloc (.cells #[.int .i64 4,.int .i32 0,.int .u8 0,.int .u8 0,.int .u8 67,.slice (some ⟨wq2.heap.size,0,none⟩) 1 1,.string {data:= #[]},.int .i64 4,.int .i32 0,.int .u8 0,.int .u8 0,.int .u8 68,.slice (some ⟨wq2.heap.size+1,0,none⟩) 1 1,.string {data:= #[]}] 49)) (wq2.heap.size+1) 3 #[.int .i64 (c:Nat)] :=by
     have h:=(Box.new (wq2.alloc (.cells #[.int .i64 (c:Nat)] 3)) 3 #[.int .i64 (c:Nat)]).alloc (.cells #[.int .i64 4,.int .i32 0,.int .u8 0,.int .u8 0,.int .u8 67,.slice (some ⟨wq2.heap.size,0,none⟩) 1 1,.string {data:= #[]},.int .i64 4,.int .i32 0,.int .u8 0,.int .u8 0,.int .u8 68,.slice (some ⟨wq2.heap.size+1,0,none⟩) 1 1,.string {data:= #[]}] 49)
     simpa using h
    have hx3:Box (((wq2.alloc (.cells #[.int .i64 (c:Nat)] 3)).alloc (.cells #[.int .i64 (c:Nat)] 3)).alloc (.cells #[.int .i64 4,.int .i32 0,.int .u8 0,.int .u8 0,.int .u8 67,.slice (some ⟨wq2.heap.size,0,none⟩) 1 1,.string {data:= #[]},.int .i64 4,.int .i32 0,.int .u8 0,.int .u8 0,.int .u8 68,.slice (some ⟨wq2.heap.size+1,0,none⟩) 1 1,.string {data:= #[]}] 49)) (wq2.heap.size+1+1) 49 #[.int .i64 4,.int .i32 0,.int .u8 0,.int .u8 0,.int .u8 67,.slice (some ⟨wq2.heap.size,0,none⟩) 1 1,.string {data:= #[]},.int .i64 4,.int .i32 0,.int .u8 0,.int .u8 0,.int .u8 68,.slice (some ⟨wq2.heap.size+1,0,none⟩) 1 1,.string {data:= #[]}] :=by
     have h:=Box.new ((wq2.alloc (.cells #[.int .i64 (c:Nat)] 3)).alloc (.cells #[.int .i64 (c:Nat)] 3)) 49 #[.int .i64 4,.int .i32 0,.int .u8 0,.int .u8 0,.int .u8 67,.slice (some ⟨wq2.heap.size,0,none⟩) 1 1,.string {data:= #[]},.int .i64 4,.int .i32 0,.int .u8 0,.int .u8 0,.int .u8 68,.slice (some ⟨wq2.heap.size+1,0,none⟩) 1 1,.string {data:= #[]}]
     simpa using h
    have hxb:Below wq2.heap.size wq2 (((wq2.alloc (.cells #[.int .i64 (c:Nat)] 3)).alloc (.cells #[.int .i64 (c:Nat)] 3)).alloc (.cells #[.int .i64 4,.int .i32 0,.int .u8 0,.int .u8 0,.int .u8 67,.slice (some ⟨wq2.heap.size,0,none⟩) 1 1,.string {data:= #[]},.int .i64 4,.int .i32 0,.int .u8 0,.int .u8 0,.int .u8 68,.slice (some ⟨wq2.heap.size+1,0,none⟩) 1 1,.string {data:= #[]}] 49)):=(((Below.refl wq2.heap.size wq2).alloc (Nat.le_refl _) _).alloc (by simp) _).alloc (by simp;omega) _
    have HX1:=hide hx1
    have HX2:=hide hx2
    have HX3:=hide hx3
    have HXB:=hide hxb
    clear hx1 hx2 hx3 hxb
    go_wp2_with (first | (refine AX Ib.out rfl _ rfl rfl ?_))
    refine(AL.out _ _ _ _ _ (I5.out.trans (HXB.out.mono I5.out.size)) HX1.out HX2.out HX3.out ⟨_,rfl,OT.out.low HXB.out⟩).mono ?_
    have hxb:=HXB.out
    clear HX1 HX2 HX3 HXB
    rintro e wb7 ⟨v7,rfl,⟨x7,rfl,hg7⟩,hb7⟩
    have hb8:=hxb.trans (hb7.mono hxb.size)
    clear hb7 hxb
    have Kg:=hide (Ib.out.below hb8 Ib.out.lt)
    have Ti:=hide (Vr.out.below hb8 Vr.out.lt)
    have mR:=hide (qy.out.below hb8 qy.out.lt)
    have KC:=hide (OT.out.low hb8)
    have Qx:=hide (L9.out.low hb8)
    have Ic:=hide (I5.out.trans (hb8.mono I5.out.size))
    clear Ib Vr qy OT L9 I5 hb8
    obtain⟨A7,c7,rfl⟩:=Af hg7
    have gK:=hide hg7
    clear hg7
    go_upto_region 10 with (first | (refine BG rfl rfl ?_;intro gu wagu csgu OU qz Jh q9) | (refine AQ OU qz rfl _ _ rfl rfl rfl rfl ?_;intro Zf gL Ji rA))
    have OV:gs≠gu:=by have:=Kg.out.lt;omega
    have OW:gt≠gu:=by have:=Ti.out.lt;omega
    have Zg:gb_≠gu:=by have:=mR.out.lt;omega
    have vR:w.heap.size<=gu:=by have:=Ic.out.size;omega
    have LU:=hide (Kg.out.below Jh Kg.out.lt)
    have LV:=hide (Ti.out.below Jh Ti.out.lt)
    have vS:=hide (mR.out.below Jh mR.out.lt)
    have LW:=hide (KC.out.low Jh)
    have Zh:=hide (Qx.out.low Jh)
    have gM:=hide (gK.out.low Jh)
    have Kh:=hide (Ic.out.trans (Jh.mono Ic.out.size))
    clear Kg Ti mR KC Qx gK Ic Jh
    have Ma:=hide (LU.out.kept Ji (by simp;first | exact OV | exact Ne.symm gN))
    have gQ:=hide (LV.out.kept Ji (by simp;first | exact OW | exact Ne.symm gT))
    have rC:=hide (vS.out.kept Ji (by simp;first | exact Zg | exact Ne.symm rH))
    have OX:=hide (LW.out.kept OU (by decide) Ji)
    have Tj:=hide (Zh.out.kept OU (by decide) Ji)
    have gU:=hide (gM.out.kept OU (by decide) Ji)
    have OY:=hide (Kh.out.trans (Ji.toBelow Kh.out.size (fun k hh=>by simp at hh;omega)))
    clear LU LV vS LW Zh gM Kh
    have Vs:=hide gL
    clear gL Ji OU q9
    clear rA
    go_simp
    have HY:=hide (Box.new Zf 49 #[.int .i64 3,.int .i32 0,.int .u8 0,.int .u8 0,.int .u8 55,.slice none 0 0,.string {data:= #[]},.int .i64 4,.int .i32 0,.int .u8 0,.int .u8 0,.int .u8 fn,.slice none 0 0,.string {data:= #[]},.int .i64 3,.int .i32 0,.int .u8 0,.int .u8 0,.int .u8 56,.slice none 0 0,.string {data:= #[]}])
    have HYB:=hide ((Below.refl Zf.heap.size Zf).alloc (Nat.le_refl _) (.cells #[.int .i64 3,.int .i32 0,.int .u8 0,.int .u8 0,.int .u8 55,.slice none 0 0,.string {data:= #[]},.int .i64 4,.int .i32 0,.int .u8 0,.int .u8 0,.int .u8 fn,.slice none 0 0,.string {data:= #[]},.int .i64 3,.int .i32 0,.int .u8 0,.int .u8 0,.int .u8 56,.slice none 0 0,.string {data:= #[]}] 49))
    go_wp2_with (first | (refine AX Ma.out rfl _ rfl rfl ?_))
    refine(AV.out _ _ _ (OY.out.trans (HYB.out.mono OY.out.size)) HY.out ⟨_,rfl,OX.out.low HYB.out⟩).mono ?_
    have hyb:=HYB.out
    clear HY HYB
    rintro e wb9 ⟨v9,rfl,⟨x9,rfl,hg9⟩,hb9⟩
    have hb10:=hyb.trans (hb9.mono hyb.size)
    clear hb9 hyb
    have Mc:=hide (Ma.out.below hb10 Ma.out.lt)
    have XC:=hide (gQ.out.below hb10 gQ.out.lt)
    have mU:=hide (rC.out.below hb10 rC.out.lt)
    have Oo:=hide (Vs.out.below hb10 Vs.out.lt)
    have Tk:=hide (OX.out.low hb10)
    have Tm:=hide (Tj.out.low hb10)
    have gW:=hide (gU.out.low hb10)
    have Tn:=hide (OY.out.trans (hb10.mono OY.out.size))
    clear Ma gQ rC Vs OX Tj gU OY hb10
    obtain⟨A9,c9,rfl⟩:=Af hg9
    have vT:=hide hg9
    clear hg9
    go_upto_region 11 with (first | (refine BG rfl rfl ?_;intro gv_ wagv_ csgv_ QB vU KD vV) | (refine AQ QB vU rfl _ _ rfl rfl rfl rfl ?_;intro wsgv_ nP KE vW))
    have Zi:gs≠gv_:=by have:=Mc.out.lt;omega
    have Zj:gt≠gv_:=by have:=XC.out.lt;omega
    have Vt:gb_≠gv_:=by have:=mU.out.lt;omega
    have Zk:gu≠gv_:=by have:=Oo.out.lt;omega
    have le_gv_:w.heap.size<=gv_:=by have:=Tn.out.size;omega
    have gX:=hide (Mc.out.below KD Mc.out.lt)
    have nQ:=hide (XC.out.below KD XC.out.lt)
    have vX:=hide (mU.out.below KD mU.out.lt)
    have vY:=hide (Oo.out.below KD Oo.out.lt)
    have gY:=hide (Tk.out.low KD)
    have nR:=hide (Tm.out.low KD)
    have vZ:=hide (gW.out.low KD)
    have vk:=hide (vT.out.low KD)
    have mV:=hide (Tn.out.trans (KD.mono Tn.out.size))
    clear Mc XC mU Oo Tk Tm gW vT Tn KD
    have JC:=hide (gX.out.kept KE (by simp;first | exact Zi | exact Ne.symm rJ))
    have QC:=hide (nQ.out.kept KE (by simp;first | exact Zj | exact Ne.symm rM))
    have QD:=hide (vX.out.kept KE (by simp;first | exact Vt | exact Ne.symm rD))
    have Vu:=hide (vY.out.kept KE (by simp;first | exact Zk | exact Ne.symm rO))
    have XD:=hide (gY.out.kept QB (by decide) KE)
    have XE:=hide (nR.out.kept QB (by decide) KE)
    have mW:=hide (vZ.out.kept QB (by decide) KE)
    have mX:=hide (vk.out.kept QB (by decide) KE)
    have Oq:=hide (mV.out.trans (KE.toBelow mV.out.size (fun k hh=>by simp at hh;omega)))
    clear gX nQ vX vY gY nR vZ vk mV
    have Ot:=hide nP
    clear nP KE QB vV
    clear vW
    go_simp
    by_cases hover:(S.g.AB:Int)-1<(S.col:Int)+(c:Int)
    ·as_aux_lemma=>
      have Gh:=(show _=some (.int .i64 (S.col:Nat):Value) from JC.out.c4)
      have Fa:=(show _=some (.int .i64 (S.g.AB:Nat):Value) from JC.out.c1)
      have Gg:=(show _=some (.int .i64 (S.row:Nat):Value) from JC.out.c3)
      have Qy:=(show _=some (.int .i64 (S.row:Nat):Value) from(Ot.out.c3).trans (by first | (rw [EVR.out];done) | (rw [EVR.out];rfl)))
      have Qz:=(show _=some (.int .i64 (S.col:Nat):Value) from(Ot.out.c4).trans (by first | (rw [EVC.out];done) | (rw [EVC.out];rfl)))
      go_wp2_with fail
      clear Gh Fa Gg Qy Qz
      refine(Er _ (HT.out.keep Oq.out) (HTB.out.keep Oq.out)).mono ?_
      rintro e wq5 ⟨rfl,hq5⟩
      have vo:=hide (JC.out.below hq5 JC.out.lt)
      have vw:=hide (QC.out.below hq5 QC.out.lt)
      have wB:=hide (QD.out.below hq5 QD.out.lt)
      have HSu5:=hide (Vu.out.below hq5 Vu.out.lt)
      have HSv2:=hide (Ot.out.below hq5 Ot.out.lt)
      have wD:=hide (XD.out.low hq5)
      have wE:=hide (XE.out.low hq5)
      have HGu7:=hide (mW.out.low hq5)
      have HGv4:=hide (mX.out.low hq5)
      have rE:=hide (Oq.out.trans (hq5.mono Oq.out.size))
      clear JC QC QD Vu Ot XD XE mW mX Oq hq5
      go_wp2_with fail
      go_ret
      exact⟨rfl,rE.out⟩
    ·as_aux_lemma=>
      have euc:=EUC.out (by omega)
      have wF:=hide euc
      clear euc
      have Gh:=(show _=some (.int .i64 (S.col:Nat):Value) from JC.out.c4)
      have Fa:=(show _=some (.int .i64 (S.g.AB:Nat):Value) from JC.out.c1)
      have Gg:=(show _=some (.int .i64 (S.row:Nat):Value) from JC.out.c3)
      have Qy:=(show _=some (.int .i64 (S.row:Nat):Value) from(Ot.out.c3).trans (by first | (rw [EVR.out];done) | (rw [EVR.out];rfl)))
      have Qz:=(show _=some (.int .i64 (S.col:Nat):Value) from(Ot.out.c4).trans (by first | (rw [EVC.out];done) | (rw [EVC.out];rfl)))
      have rF:=(show _=some (.int .i64 (S.col:Nat):Value) from(Vu.out.c4).trans (by first | (rw [wF.out];done) | (rw [wF.out];rfl)))
      go_wp2_with fail
      clear Gh Fa Gg Qy Qz rF
      refine(Er _ (HT.out.keep Oq.out) (HTB.out.keep Oq.out)).mono ?_
      rintro e wq5 ⟨rfl,hq5⟩
      have vo:=hide (JC.out.below hq5 JC.out.lt)
      have vw:=hide (QC.out.below hq5 QC.out.lt)
      have wB:=hide (QD.out.below hq5 QD.out.lt)
      have HSu5:=hide (Vu.out.below hq5 Vu.out.lt)
      have HSv2:=hide (Ot.out.below hq5 Ot.out.lt)
      have wD:=hide (XD.out.low hq5)
      have wE:=hide (XE.out.low hq5)
      have HGu7:=hide (mW.out.low hq5)
      have HGv4:=hide (mX.out.low hq5)
      have rE:=hide (Oq.out.trans (hq5.mono Oq.out.size))
      clear JC QC QD Vu Ot XD XE mW mX Oq hq5
      go_wp2_with fail
      go_ret
      exact⟨rfl,rE.out⟩
end Go.Proofs.YteecohpaecgdlaaGreatDoor
namespace Go.Proofs.YteecohpaecgdlaaGreatDoor
open Go.RowKit
theorem Mf (rw cl:Int) (Ap:Option Addr) (np cp:Nat) (lp:List Int) (At:Option Addr) (nt ct:Nat) (lt:List Int) (a b c d e p q r u n1 n2 n3:Int) (w:World)
  (hr:(Lit.int .i64 rw).wf=true) (hc:(Lit.int .i64 cl).wf=true) (hp:Arg .i64 w Ap np cp lp) (ht:Arg .i64 w At nt ct lt) (ha:(Lit.int .i64 a).wf=true) (hb:(Lit.int .i64 b).wf=true) (hc':(Lit.int .i64 c).wf=true) (hd:(Lit.int .i64 d).wf=true) (he:(Lit.int .i64 e).wf=true)
  (hp0:(Lit.int .i64 p).wf=true) (hp1:(Lit.int .i64 q).wf=true) (hp2:(Lit.int .i64 r).wf=true) (hu:(Lit.int .u64 u).wf=true) (gZ:(Lit.int .i64 n1).wf=true) (hwn2:(Lit.int .i64 n2).wf=true) (rG:(Lit.int .i64 n3).wf=true) (h1:DZ w) (h2:FR w) (h3:JY w) (h4:Cw w) (h5:Ez w):
  Calls Tryz.prog 8 #[.agg #[.int .i64 rw,.int .i64 cl,.slice Ap np cp,.slice At nt ct,.int .i64 a,.int .i64 b,.int .i64 c,.int .i64 d,.int .i64 e,.int .i64 p,.int .i64 q,.int .i64 r,.int .u64 u],.int .i64 n1,.int .i64 n2,.int .i64 n3] w fun e w'=>e=.returned (.bool true)/\Below w.heap.size w w':=by
 obtain⟨S,hS,hR5,hK9,KS⟩:=Ke rw cl Ap np cp lp At nt ct lt a b c d e p q r u w hr hc hp ht ha hb hc' hd he hp0 hp1 hp2 hu
 obtain⟨i,hi⟩: ∃i:Nat,0+n1%(9-0+1)=(i:Int):=⟨(0+n1%(9-0+1)).toNat,by omega⟩
 obtain⟨p1,hp_⟩: ∃p1:Nat,0+n2%(70-0+1)=(p1:Int):=⟨(0+n2%(70-0+1)).toNat,by omega⟩
 obtain⟨q1,hq_⟩: ∃q1:Nat,0+n3%(70-0+1)=(q1:Int):=⟨(0+n3%(70-0+1)).toNat,by omega⟩
 obtain⟨c1,hc_⟩: ∃c1:Nat,1+n2%(9-1+1)=(c1:Int):=⟨(1+n2%(9-1+1)).toNat,by omega⟩
 have b1:=bounds_i64 gZ
 have b2:=bounds_i64 hwn2
 have b3:=bounds_i64 rG
 exact Oj _ n1 n2 n3 i p1 q1 c1 S w rfl hS hR5 hK9 ⟨h1,h2,h3,h4⟩ h5 (by omega) (by omega) (by omega) (by omega) (by omega) KS
  (hide fun w'=>BU n1 0 9 _ hi w' b1.1 b1.2 (by omega) (by omega) (by omega))
  (hide fun w'=>BU n2 0 70 _ hp_ w' b2.1 b2.2 (by omega) (by omega) (by omega))
  (hide fun w'=>BU n3 0 70 _ hq_ w' b3.1 b3.2 (by omega) (by omega) (by omega))
  (hide fun w'=>BU n2 1 9 _ hc_ w' b2.1 b2.2 (by omega) (by omega) (by omega))
end Go.Proofs.YteecohpaecgdlaaGreatDoor
