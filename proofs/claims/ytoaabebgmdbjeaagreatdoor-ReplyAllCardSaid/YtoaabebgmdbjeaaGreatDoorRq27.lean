/- A part of the proof: ReplyEach, ReplyRuns. -/
import Derived.Test.YtoaabebgmdbjeaaGreatDoorRq19
set_option maxRecDepth 100000
set_option maxHeartbeats 16000000
set_option linter.unusedVariables false
namespace Go.Proofs.YtoaabebgmdbjeaaGreatDoor
open Go Go.RowKit
def GotB (w:World) (T:SN.Sc) (bs:List Int) (m:Nat) (e:Ending) (w':World):Prop:=
 ∃x A c,e=.returned (.tuple #[.agg (scA x T),.slice A m c])/\m<=c/\IsG w' T.g (gv T.g.rows T.g.AB x)/\Seen w' w'.heap.size A m (u8s bs)/\Below w.heap.size w w'
theorem Rx {w:World} {g:Nat} {x:Value} {s:SN.Sc} {fn:Func} {t k:Tmp} (h:fn.results= #[.cell t 43,.tmp k]) {tmps:Array Value} (ht:tmps.getD t undef=.pointer (some ⟨g,0,none⟩)) (b:Value) (hk:tmps.getD k undef=b) (hb:Am w g x s):(results fn tmps).run Tryz.prog w=.ok (.tuple #[.agg (scA x s),b]) w:=by
 obtain⟨d,hu,hd⟩:=Hy
 have hl:=run_loadVar_mid (P:=Tryz.prog) w g 0 43 (scA x s).toList d (Box.rangeAt hb) hu hd En
 have ht':tmps[t]?.getD undef=.pointer (some ⟨g,0,none⟩):=by simpa using ht
 have hk':tmps[k]?.getD undef=b:=by simpa using hk
 simp [results,h,ht',hk',asAddr,hl]
theorem gQ {w w':World} {G:PG.Gr} {v o:Value} {base n:Nat} {xs:List Value} (h:IsG w G v) (ho:w.ownsRow base 5 1 o n xs) (k:Kept [o.ownBlock] w w'):IsG w' G v:=by
 obtain⟨s,h1,h2⟩:=h
 refine⟨s,h1,Bl h2 k (fun b hb hm=>?_)⟩
 simp only [List.mem_singleton] at hm
 exact Lx h2 ho (by decide) (b:=b) hb hm.symm
theorem gT (s:SN.Sc) (v:Value) (A:Option Addr) (n c:Nat) (M:List (PA.Ev × Value)) (w:World) (S':SN.Sc) (bs:List Int) (m:Nat) (hS':SN.Bf s (M.map (·.1))=S') (hbs:RP.outs s (M.map (·.1))=bs) (hm:bs.length=m) (hs:SN.Ad s) (hE:Gp w A n M) (hn:n<=1000000) (hnc:n<=c) (hF: ∀p∈M,PA.Fits p.1) (hC: ∀p∈M,Ol p.2) (hT:I7 w) (hMT:IW w) (hTN:KO w) (h:IsS w s v):
  Calls Tryz.prog 32 #[v,.slice A n c] w (GotB w S' bs m):=by
 obtain⟨x,rfl,hg⟩:=h
 obtain⟨A0,cp,rfl⟩:=Af hg
 have HG:=hide hg
 have HS:=hide hs
 have HE:=hide hE
 have HF:=hide hF
 have HC:=hide hC
 have HT:=hide hT
 have HMT:=hide hMT
 have HTN:=hide hTN
 have HS':=hide hS'
 have HBS:=hide hbs
 have HM:=hide hm
 have ALC:=hide (fun (d k:Nat) (T0 T1:SN.Sc) (h0:(SN.Bf s ((M.take d).map (·.1)))=T0) (h1:(SN.Bf s ((M.take k).map (·.1)))=T1) (hd:d<=k) (hk:k<=n) (w':World) (v':Value) (hb:Below w.heap.size w w') h=>aH s T0 T1 v' A n c d k M w' h0 h1 hd hk hs (hE.kept hb) hn hnc hF hC (hT.keep hb) h)
 obtain⟨i8,hi8,hy0,hy1,hy2⟩:=info_parts Dy
 clear hs hg hE hF hC hT hMT hTN hS' hbs hm
 go_enter Tryz.func32,Tryz.ntmps32
 go_upto_region 1 with (first | (refine Aq rfl _ rfl rfl ?_;intro g w1 hB1 hb1 hg1) | (refine Bb rfl rfl ?_;intro gR w2 csR hR hsR hb2 hgR))
 have HB2:=hide (hB1.below hb2 hB1.lt)
 have HW2:=hide (hb1.trans (hb2.mono hb1.size))
 have HR2:=hide hR
 have HG2:=hide (HG.out.low HW2.out)
 have dR:=hb1.size
 have hne:gR≠g:=by have:=hB1.lt;omega
 have Aj:w.heap.size<=gR:=by omega
 have hgg:w.heap.size<=g:=by omega
 clear hB1 hb1 hb2 hR HG hgR dR
 go_wp2_with fail
 go_loopw [6,7,12] (fun out dn i wr=> ∃k d:Nat,k<=n/\d<=k/\i=.int .i64 (k:Nat)/\dn=.int .i64 (d:Nat)/\Hid (∃A0 c0,Am wr g (.slice A0 ((SN.Bf s ((M.take d).map (·.1))).g.rows*(SN.Bf s ((M.take d).map (·.1))).g.AB) c0) (SN.Bf s ((M.take d).map (·.1)))/\IsG wr (SN.Bf s ((M.take d).map (·.1))).g (gv (SN.Bf s ((M.take d).map (·.1))).g.rows (SN.Bf s ((M.take d).map (·.1))).g.AB (.slice A0 ((SN.Bf s ((M.take d).map (·.1))).g.rows*(SN.Bf s ((M.take d).map (·.1))).g.AB) c0)))/\Hid (wr.ownsRow w.heap.size 5 1 out (RP.outs s ((M.take k).map (·.1))).length (u8s (RP.outs s ((M.take k).map (·.1)))))/\Hid (Box wr gR 43 csR)/\Hid (Below w.heap.size w wr)) (fun _ _ i _=>n-(intOf i).toNat)
 case atStart=>exact⟨0,0,Nat.zero_le _,Nat.le_refl _,rfl,rfl,hide ⟨A0,cp,(show Am w2 g _ (SN.Bf s ((M.take 0).map (·.1))) from HB2.out),HG2.out⟩,hide (World.ownsRow_nil _ _ _ _),HR2,HW2⟩
 case round=>
  obtain⟨k,d,hkn',hdk,rfl,rfl,HX,HO,HR,HW⟩:=hrel
  obtain⟨A5,c5,hB5,hG5⟩:=HX.out
  have HB5:=hide hB5
  have HG5:=hide hG5
  clear HX hB5 hG5 HB2 HR2 HW2 HG2
  by_cases hkn:k<n
  ·skip
   obtain⟨q,hq⟩: ∃q,M[k]? =some q:=⟨_,List.getElem?_eq_getElem (by rw [HE.out.1];exact hkn)⟩
   obtain⟨gb,hA',hgb,hcc,Ap,cp2,hpu,hps,hle⟩:=HE.out.2 k q hq
   have hfit:=HF.out q (List.mem_of_getElem? hq)
   have HOE:=hide (RP.X3 s hq)
   have hol:=RP.Rt s ((M.take k).map (·.1))
   have holn:((M.take k).map (·.1)).length<=n:=by rw [List.length_map,List.length_take];omega
   obtain⟨e,u⟩:=q
   simp only [] at hcc hpu hps hle hfit HOE
   subst hpu hA'
   obtain⟨e0,e1,e2,e3,e4,el,et⟩:=e
   simp only [] at hcc hps hle
   have hlen:el.length<=16:=hfit.len
   have VZ: ∀x∈el, -1<=x/\x<=65535:=hfit.nums
   have b0:=HW.out
   have cb: ∀j u,(Fe ⟨e0,e1,e2,e3,e4,el,et⟩ (.slice Ap el.length cp2))[j]? =some u->wr.cell? ⟨gb,k*7+j,none⟩=some u:=fun j u hu=>(b0.cell (p:=⟨gb,k*7+j,none⟩) hgb).trans (hcc j u hu)
   have c0:wr.cell? ⟨gb,k*7,none⟩=some (.int .i64 e0):=cb 0 _ rfl
   have c1:wr.cell? ⟨gb,k*7+1,none⟩=some (.int .i32 e1):=cb 1 _ rfl
   have c2:wr.cell? ⟨gb,k*7+2,none⟩=some (.int .u8 e2):=cb 2 _ rfl
   have c3':wr.cell? ⟨gb,k*7+3,none⟩=some (.int .u8 e3):=cb 3 _ rfl
   have c4:wr.cell? ⟨gb,k*7+4,none⟩=some (.int .u8 e4):=cb 4 _ rfl
   have c5':wr.cell? ⟨gb,k*7+5,none⟩=some (.slice Ap el.length cp2):=cb 5 _ rfl
   have c6:wr.cell? ⟨gb,k*7+6,none⟩=some (.string (strOfNums et)):=cb 6 _ rfl
   obtain⟨b,hb⟩: ∃b,RP.asks ⟨e0,e1,e2,e3,e4,el,et⟩=b:=⟨_,rfl⟩
   obtain⟨T0,hT0⟩: ∃T,(SN.Bf s ((M.take d).map (·.1)))=T:=⟨_,rfl⟩
   obtain⟨T1,hT1⟩: ∃T,(SN.Bf s ((M.take k).map (·.1)))=T:=⟨_,rfl⟩
   obtain⟨Ok,hOk⟩: ∃O,(RP.outs s ((M.take k).map (·.1)))=O:=⟨_,rfl⟩
   obtain⟨On,hOn⟩: ∃O,(RP.outs s ((M.take (k+1)).map (·.1)))=O:=⟨_,rfl⟩
   obtain⟨Q,hQ⟩: ∃O,RP.saidE T1 ⟨e0,e1,e2,e3,e4,el,et⟩=O:=⟨_,rfl⟩
   obtain⟨mq,hmq⟩: ∃m,Q.length=m:=⟨_,rfl⟩
   have R1:SN.Ad T1:=hT1▸SN.FZ HS.out _
   have hbd:=RP.NY R1
   have hql:=RP.NZ T1 ⟨e0,e1,e2,e3,e4,el,et⟩
   rw [hQ,hmq] at hql
   have HQN:=hide (fun (e:b=false)=>(show Q= [] from hQ▸RP.Xz R1 (fun x hx=>(VZ x hx).2) (hb.trans e)))
   have HON:=hide (show On=Ok++Q by rw [<- hOn, <- hOk, <- hQ, <- hT1];exact HOE.out)
   have ALK:=hide (fun (w':World) (v':Value) hbw h=>ALC.out d k T0 T1 hT0 hT1 hdk hkn' w' v' hbw h)
   have AK:=hide (fun (w':World) (hbw:Below w.heap.size w w')=>Rs e0 e1 e2 e3 e4 Ap el.length cp2 w.heap.size (strOfNums et) el w' b hb (hps.below hbw) hbw.size VZ (HMT.out.keep hbw))
   have TO:=hide (fun (w':World) (Ax:Option Addr) (cx:Nat) (hbw:Below w.heap.size w w') (h:IsG w' T1.g (gv T1.g.rows T1.g.AB (.slice Ax (T1.g.rows*T1.g.AB) cx)))=>Uc T1 (.slice Ax (T1.g.rows*T1.g.AB) cx) e0 e1 e2 e3 e4 Ap el.length cp2 w.heap.size (strOfNums et) el w' Q mq hQ hmq hbd.1 hbd.2.1 hbd.2.2 rfl (hps.below hbw) hbw.size VZ (HMT.out.keep hbw) (HTN.out.keep hbw) ⟨_,rfl,h⟩)
   rw [hOk] at HO hol
   rw [hT0] at HB5 HG5
   have HBK:=hide (show(SN.Bf s ((M.take k).map (·.1)))=T1 from hT1)
   have HBD:=hide (show(SN.Bf s ((M.take d).map (·.1)))=T0 from hT0)
   have HOB:=hide hOn
   have HMQ:=hide hmq
   have hkc:k<=c:=by omega
   have hsum:Ok.length+mq<=1099511627776:=by omega
   have hbx:=Box.new wr 34 #[.int .i64 e0,.int .i32 e1,.int .u8 e2,.int .u8 e3,.int .u8 e4,.slice Ap el.length cp2,.string (strOfNums et)]
   have HBX:=hide ((Below.refl wr.heap.size wr).alloc (Nat.le_refl _) (.cells #[.int .i64 e0,.int .i32 e1,.int .u8 e2,.int .u8 e3,.int .u8 e4,.slice Ap el.length cp2,.string (strOfNums et)] 34))
   clear hT0 hT1 hOk hOn hQ hmq hb HOE R1 hbd hql cb hcc hps hle hfit hq b0 VZ hlen hol holn ALC
   go_wp2_with fail
   refine(AK.out _ (HW.out.trans (HBX.out.mono HW.out.size))).mono ?_
   rintro e w5 ⟨rfl,hb5⟩
   have NT:=HBX.out.trans (hb5.mono HBX.out.size)
   have HE6:=hide (hbx.below hb5 hbx.lt)
   have HB6:=hide (HB5.out.below NT HB5.out.lt)
   have HR6:=hide (HR.out.below NT HR.out.lt)
   have HW6:=hide (HW.out.trans (NT.mono HW.out.size))
   have HG6:=hide (HG5.out.low NT)
   have HO6:=hide (Bl HO.out (Kept.of_below (L:= []) NT) (by simp))
   have nI:wr.heap.size≠g:=by have:=HB5.out.lt;omega
   have nJ:wr.heap.size≠gR:=by have:=HR.out.lt;omega
   clear hb5 NT HB5 HG5 HR HW HO c0 c1 c2 c3' c4 c5' c6 hbx HBX AK
   generalize wr.heap.size=gE at HE6 nI nJ⊢
   cases b with
   | false=>
    go_wp2_with fail
    go_roundw
    case rel=>
     refine⟨k+1,d,by omega,by omega,by go_num,rfl,hide ?_,hide ?_,HR6,HW6⟩
     ·rw [HBD.out];exact⟨A5,c5,HB6.out,HG6.out⟩
     ·rw [HOB.out,HON.out,HQN.out (by first | rfl | trivial),List.append_nil];exact HO6.out
    case measure=>simp [intOf];omega
   | true=>
    clear HQN HBD
    go_upto_region 7 with fail
    refine Bc (n:=38) 6 [] (fun _=> #[]) [(0,0,0,0,0),(0,0,0,0,0),(0,0,0,0,0),(0,0,0,0,0),(0,0,0,0,0),(1,0,0,0,0),(0,0,0,0,0)] (fun j=> [(.agg (scA (.slice A5 (T0.g.rows*T0.g.AB) c5) T0)),(.slice (some ⟨gb,0,none⟩) n c),(.int .i64 (d:Nat)),(.int .i64 (k:Nat)),(cutV (some ⟨gb,0,none⟩) d k c),undef,undef].getD j undef) [none,none,none,none,none,some (EJ T1)] (fun _=>0) (by kernel_rfl) (by kernel_rfl) (by kernel_rfl) rfl (by kernel_rfl) (by kernel_rfl) (Dj rfl) (fun i j h=>by revert h;exact Dj (p:=fun _=>_) rfl i) (Ah.none_ (Ah.none_ (Ah.none_ (Ah.none_ (Ah.none_ (Ah.some_ (EJ.stays (by kernel_rfl)) (Ah.nil _))))))) (fun hGS=>YB ⟨?_,?_,?_,?_,?_,?_⟩) ?_
    ·intro L a w' hL hsame hsz hJ AJ hcl
     have hb:=hJ.kept.toBelow (Nat.le_refl _) (by simp)
     have e0:a.eval (.tmp 2)=(.pointer (some ⟨g,0,none⟩)):=AY hsame (by kernel_rfl)
     have hx:=hJ.Ai ((show Box _ g 43 (scA (.slice A5 (T0.g.rows*T0.g.AB) c5) T0) from HB6.out)) (by simp)
     exact Step.val _ rfl rfl (AX rfl) (.agg (scA (.slice A5 (T0.g.rows*T0.g.AB) c5) T0)) w' (fun ρ hρ=>BQ hx rfl ρ _ rfl ((hρ _).symm.trans e0)) (hJ.val hGS hcl hL rfl (Below.refl _ _) _ rfl)
    ·intro L a w' hL hsame hsz hJ AJ hcl
     have hb:=hJ.kept.toBelow (Nat.le_refl _) (by simp)
     have e0:a.eval (.tmp 1)=(.slice (some ⟨gb,0,none⟩) n c):=AY hsame (by kernel_rfl)
     refine Step.val _ rfl rfl (AX rfl) (.slice (some ⟨gb,0,none⟩) n c) w' (fun ρ hρ=>?_) (hJ.val hGS hcl hL rfl (Below.refl _ _) _ rfl)
     rw [hρ] at e0
     clear hJ hsame AJ hcl hρ hsz hb
     go_simp
    ·intro L a w' hL hsame hsz hJ AJ hcl
     have hb:=hJ.kept.toBelow (Nat.le_refl _) (by simp)
     have e0:a.eval (.tmp 7)=(.int .i64 (d:Nat)):=AY hsame (by kernel_rfl)
     refine Step.val _ rfl rfl (AX rfl) (.int .i64 (d:Nat)) w' (fun ρ hρ=>?_) (hJ.val hGS hcl hL rfl (Below.refl _ _) _ rfl)
     rw [hρ] at e0
     clear hJ hsame AJ hcl hρ hsz hb
     go_simp
    ·intro L a w' hL hsame hsz hJ AJ hcl
     have hb:=hJ.kept.toBelow (Nat.le_refl _) (by simp)
     have e0:a.eval (.tmp 8)=(.int .i64 (k:Nat)):=AY hsame (by kernel_rfl)
     refine Step.val _ rfl rfl (AX rfl) (.int .i64 (k:Nat)) w' (fun ρ hρ=>?_) (hJ.val hGS hcl hL rfl (Below.refl _ _) _ rfl)
     rw [hρ] at e0
     clear hJ hsame AJ hcl hρ hsz hb
     go_simp
    ·intro L a w' hL hsame hsz hJ AJ hcl
     have hb:=hJ.kept.toBelow (Nat.le_refl _) (by simp)
     have e0:a.eval (.tmp 20)=(.slice (some ⟨gb,0,none⟩) n c):=AV (j:=1) (by kernel_rfl) (hJ.valOf (by decide) (AZ AJ 1 (by kernel_rfl)) rfl rfl)
     have e1:a.eval (.tmp 21)=(.int .i64 (d:Nat)):=AV (j:=2) (by kernel_rfl) (hJ.valOf (by decide) (AZ AJ 2 (by kernel_rfl)) rfl rfl)
     have e2:a.eval (.tmp 22)=(.int .i64 (k:Nat)):=AV (j:=3) (by kernel_rfl) (hJ.valOf (by decide) (AZ AJ 3 (by kernel_rfl)) rfl rfl)
     refine Step.val _ rfl rfl (AX rfl) (cutV (some ⟨gb,0,none⟩) d k c) w' (fun ρ hρ=>?_) (hJ.val hGS hcl hL rfl (Below.refl _ _) _ rfl)
     rw [hρ] at e0 e1 e2
     clear hJ hsame AJ hcl hρ hsz hb
     exact gN _ _ (some ⟨gb,0,none⟩) n c d k _ _ _ e0 e1 e2 hdk hkc _ _ _ _ _
    ·intro L a w' hL hsame hsz hJ AJ hcl
     have hb:=hJ.kept.toBelow (Nat.le_refl _) (by simp)
     have e0:a.eval (.tmp 19)=(.agg (scA (.slice A5 (T0.g.rows*T0.g.AB) c5) T0)):=AV (j:=0) (by kernel_rfl) (hJ.valOf (by decide) (AZ AJ 0 (by kernel_rfl)) rfl rfl)
     have e1:a.eval (.tmp 23)=(cutV (some ⟨gb,0,none⟩) d k c):=AV (j:=4) (by kernel_rfl) (hJ.valOf (by decide) (AZ AJ 4 (by kernel_rfl)) rfl rfl)
     refine Step.call _ rfl rfl (AX rfl) 24 #[.agg (scA (.slice A5 (T0.g.rows*T0.g.AB) c5) T0),cutV (some ⟨gb,0,none⟩) d k c] (fun ρ hρ=>?_) ?_
     ·skip
      rw [hρ] at e0 e1
      have ef:ρ (.func 24)=.func (.func 24) #[] #[] :=(hρ _).symm
      clear hJ hsame AJ hcl hρ hsz hb
      go_simp
     ·refine(ALK.out _ _ (HW6.out.trans (hb.mono HW6.out.size)) ⟨_,rfl,HG6.out.low hb⟩).mono ?_
      rintro e w2 ⟨v,rfl,hi,bb⟩
      exact⟨_,rfl,hJ.pred hGS hcl hL rfl bb _ (FQ hi)⟩
    ·intro L u w' hF hall
     change wpList _ _ _ _ (Act.put (Act.put (Act.put (Act.put (Act.put (Act.put (Act.put (BG _ u 0 _) (some 19) (u 0)) (some 20) (u 1)) (some 21) (u 2)) (some 22) (u 3)) (some 23) (u 4)) (some 24) (u 5)) none (u 6)) _
     simp only [BG]
     obtain⟨Aa,ca,fa,hia⟩:=(show EJ T1 (u 5) w' from hF.CB (j:=5) (by decide) (hall 5 (by decide)) rfl)
     have hk:=hF.kept.toBelow (Nat.le_refl _) (by simp)
     clear hF
     generalize u 0=z0
     generalize u 1=z1
     generalize u 2=z2
     generalize u 3=z3
     generalize u 4=z4
     generalize u 5=z5 at fa⊢
     generalize u 6=z6
     subst fa
     simp only [List.drop_succ_cons,List.drop_zero]
     have hG9:=HB6.out.below hk HB6.out.lt
     refine AQ (x:=.slice Aa (T1.g.rows*T1.g.AB) ca) (s:=T1) hG9 (KD _ _) rfl _ _ rfl (by((repeat(first | rw [EU] | rw [ET (by decide)]));rfl)) (by((repeat(first | rw [EU] | rw [ET (by decide)]));rw [I9 (by(repeat rw [Cv]);exact Nat.lt_of_lt_of_le (m:=38) (by decide) (Nat.le_refl 38))])) rfl ?_
     intro wx1 hB1 hk1 hq1
     have HB7:=hide hB1
     have HR7:=hide ((HR6.out.below hk HR6.out.lt).kept hk1 (by simp;exact hne))
     have HE7:=hide ((HE6.out.below hk HE6.out.lt).kept hk1 (by simp;exact nI))
     have HG7:=hide (hia.kept hG9 (by decide) hk1)
     have hO7:=Bl HO6.out (Kept.of_below (L:= []) hk) (by simp)
     have HO7:=hide (Bl hO7 hk1 (fun b hb hm=>by simp only [List.mem_singleton] at hm;exact Ac hO7 hG9 (by decide) (hb.trans hm)))
     have HW7:=hide ((HW6.out.trans (hk.mono HW6.out.size)).trans (hk1.toBelow (Nat.le_trans HW6.out.size hk.size) (fun k hh=>by simp at hh;omega)))
     clear hB1 hk1 hq1 hk hG9 hia hO7 HB6 HR6 HE6 HG6 HO6 HW6 ALK
     obtain⟨x0,x1,x2,x3,x4,x5,x6⟩:=Box.seven HE7.out
     go_simp
     go_step
     go_wp2_with (refine AU HB7.out rfl _ rfl rfl ?_)
     refine(TO.out _ _ _ HW7.out HG7.out).mono ?_
     rintro e w8 ⟨A8,c8,rfl,hc8,hs8,hb8⟩
     have HB8:=hide (HB7.out.below hb8 HB7.out.lt)
     have HR8:=hide (HR7.out.below hb8 HR7.out.lt)
     have HG8:=hide (HG7.out.low hb8)
     have HO8:=hide (Bl HO7.out (Kept.of_below (L:= []) hb8) (by simp))
     have HW8:=hide (HW7.out.trans (hb8.mono HW7.out.size))
     clear hb8 HB7 HR7 HG7 HO7 HW7 HE7 x0 x1 x2 x3 x4 x5 x6 TO
     have hw8:=HW8.out.size
     go_wp2_with (at_builtin;refine IX rfl (.tmp 26) (.tmp 29) 30 rfl w.heap.size 5 i8 _ 1 Tryz.underlying30 hi8 hy0 hy1 hy2 rfl _ _ _ rfl HO8.out w8.heap.size _ _ _ (u8s Q) rfl hs8 (Un _) (by omega) hsum hw8 ?_;intro v9 w9 nK hg9 hm9)
     have hk9:=Kept.J4 hg9
     obtain⟨_,_,_,_,_,hob⟩:=Bo HO8.out
     go_roundw
     case rel=>
      refine⟨k+1,k,by omega,by omega,by go_num,rfl,hide ?_,hide ?_,hide ?_,hide ?_⟩
      ·rw [HBK.out]
       exact⟨Aa,ca,HB8.out.kept hk9 (by simp;exact fun e=>Ac HO8.out HB8.out (by decide) e.symm),gQ HG8.out HO8.out hk9⟩
      ·rw [HOB.out,HON.out,Uo,List.length_append,HMQ.out];exact nK
      ·exact HR8.out.kept hk9 (by simp;exact fun e=>Ac HO8.out HR8.out (by decide) e.symm)
      ·exact HW8.out.trans (hk9.toBelow hw8 (fun k hh=>by simp at hh;exact(hob k hh.symm).1))
     case measure=>simp [intOf];omega
  ·skip
   obtain rfl:n=k:=by omega
   have hdn: ¬(n:Int)<(n:Int):=by omega
   obtain⟨T0,hT0⟩: ∃T,(SN.Bf s ((M.take d).map (·.1)))=T:=⟨_,rfl⟩
   have hMn:M.take n=M:=by rw [<- HE.out.1,List.take_length]
   have ALK:=hide (fun (w':World) (v':Value) hbw h=>ALC.out d n T0 S' hT0 (by rw [hMn];exact HS'.out) hdk (Nat.le_refl _) w' v' hbw h)
   rw [hMn,HBS.out,HM.out] at HO
   rw [hT0] at HB5 HG5
   clear hT0 hMn ALC HE HF HC HBS HS' HM hkn hkn'
   go_upto_region 11 with fail
   refine Ep (n:=38) [some gR] (fun _=>csR) [(0,0,0,0,0),(0,0,0,0,0),(0,0,0,0,0),(0,0,0,0,0),(1,0,0,0,0),(0,0,0,0,0),(4,0,4,43,29),(0,0,0,0,0)] (fun j=> [(.agg (scA (.slice A5 (T0.g.rows*T0.g.AB) c5) T0)),(.slice A n c),(.int .i64 (d:Nat)),(cutV A d n c),undef,u6,undef,u6].getD j undef) [none,none,none,none,some (EJ S')] (fun _=>gR) (by kernel_rfl) (by kernel_rfl) (by kernel_rfl) rfl (by kernel_rfl) (YE (k:=6) rfl ⟨by simp,hsR,HR.out⟩) (Uv (k:=6) rfl) (Ah.none_ (Ah.none_ (Ah.none_ (Ah.none_ (Ah.some_ (EJ.stays (by kernel_rfl)) (Ah.nil _)))))) (fun hGS=>SQ ⟨?_,?_,?_,?_,?_,?_,?_,?_⟩) ?_
   ·intro L a w' hL hsame hsz hJ AJ hcl
    have hb:=hJ.kept
    have e0:a.eval (.tmp 2)=(.pointer (some ⟨g,0,none⟩)):=AY hsame (by kernel_rfl)
    have hx:=hJ.Ai ((show Box _ g 43 (scA (.slice A5 (T0.g.rows*T0.g.AB) c5) T0) from HB5.out)) (by simp;exact fun e=>hne e.symm)
    exact Step.val _ rfl rfl (AX rfl) (.agg (scA (.slice A5 (T0.g.rows*T0.g.AB) c5) T0)) w' (fun ρ hρ=>BQ hx rfl ρ _ rfl ((hρ _).symm.trans e0)) (hJ.val hGS hcl hL rfl (Below.refl _ _) _ rfl)
   ·intro L a w' hL hsame hsz hJ AJ hcl
    have hb:=hJ.kept
    have e0:a.eval (.tmp 1)=(.slice A n c):=AY hsame (by kernel_rfl)
    refine Step.val _ rfl rfl (AX rfl) (.slice A n c) w' (fun ρ hρ=>?_) (hJ.val hGS hcl hL rfl (Below.refl _ _) _ rfl)
    rw [hρ] at e0
    clear hJ hsame AJ hcl hρ hsz hb
    go_simp
   ·intro L a w' hL hsame hsz hJ AJ hcl
    have hb:=hJ.kept
    have e0:a.eval (.tmp 7)=(.int .i64 (d:Nat)):=AY hsame (by kernel_rfl)
    refine Step.val _ rfl rfl (AX rfl) (.int .i64 (d:Nat)) w' (fun ρ hρ=>?_) (hJ.val hGS hcl hL rfl (Below.refl _ _) _ rfl)
    rw [hρ] at e0
    clear hJ hsame AJ hcl hρ hsz hb
    go_simp
   ·intro L a w' hL hsame hsz hJ AJ hcl
    have hb:=hJ.kept
    have e0:a.eval (.tmp 33)=(.slice A n c):=AV (j:=1) (by kernel_rfl) (hJ.valOf (by decide) (AZ AJ 1 (by kernel_rfl)) rfl rfl)
    have e1:a.eval (.tmp 34)=(.int .i64 (d:Nat)):=AV (j:=2) (by kernel_rfl) (hJ.valOf (by decide) (AZ AJ 2 (by kernel_rfl)) rfl rfl)
    refine Step.val _ rfl rfl (AX rfl) (cutV A d n c) w' (fun ρ hρ=>?_) (hJ.val hGS hcl hL rfl (Below.refl _ _) _ rfl)
    rw [hρ] at e0 e1
    clear hJ hsame AJ hcl hρ hsz hb
    exact Ru _ _ A n c d _ _ e0 e1 hdk _ _ _ _ _
   ·intro L a w' hL hsame hsz hJ AJ hcl
    have hb:=hJ.kept
    have e0:a.eval (.tmp 32)=(.agg (scA (.slice A5 (T0.g.rows*T0.g.AB) c5) T0)):=AV (j:=0) (by kernel_rfl) (hJ.valOf (by decide) (AZ AJ 0 (by kernel_rfl)) rfl rfl)
    have e1:a.eval (.tmp 35)=(cutV A d n c):=AV (j:=3) (by kernel_rfl) (hJ.valOf (by decide) (AZ AJ 3 (by kernel_rfl)) rfl rfl)
    refine Step.call _ rfl rfl (AX rfl) 24 #[.agg (scA (.slice A5 (T0.g.rows*T0.g.AB) c5) T0),cutV A d n c] (fun ρ hρ=>?_) ?_
    ·skip
     rw [hρ] at e0 e1
     have ef:ρ (.func 24)=.func (.func 24) #[] #[] :=(hρ _).symm
     clear hJ hsame AJ hcl hρ hsz hb
     go_simp
    ·refine(ALK.out _ _ (HW.out.trans (hb.toBelow HW.out.size (fun k hh=>by simp at hh;omega))) ⟨_,rfl,HG5.out.kept HR.out (by decide) hb⟩).mono ?_
     rintro e w2 ⟨v,rfl,hi,bb⟩
     exact⟨_,rfl,hJ.pred hGS hcl hL rfl bb _ (FQ hi)⟩
   ·intro L a w' hL hsame hsz hJ AJ hcl
    have hb:=hJ.kept
    have e0:a.eval (.tmp 6)=u6:=AY hsame (by kernel_rfl)
    refine Step.val _ rfl rfl (AX rfl) u6 w' (fun ρ hρ=>?_) (hJ.val hGS hcl hL rfl (Below.refl _ _) _ rfl)
    rw [hρ] at e0
    clear hJ hsame AJ hcl hρ hsz hb
    go_simp
   ·intro L a w' hL hsame hsz hJ AJ hcl
    have hb:=hJ.kept
    obtain⟨A4',c4',hv4,hi4⟩:=(show(EJ S') (valOf _ 4 a) w' from hJ.CB (by decide) (AZ AJ 4 (by kernel_rfl)) rfl)
    have es:a.eval (.tmp 36)=.agg (scA (.slice A4' (S'.g.rows*S'.g.AB) c4') S'):=AV (j:=4) (by kernel_rfl) hv4
    have hx:Box w' gR 43 csR:=hJ.old 6 rfl hL
    have ea:a.eval (.tmp 4)=.pointer (some ⟨gR,0,none⟩):=AY hsame (by kernel_rfl)
    exact Step.skip _ rfl (AX rfl) _ (fun ρ hρ=>NU hx hsR rfl (U9 rfl _) ρ _ rfl ((hρ _).symm.trans ea) ((hρ _).symm.trans es)) (hJ.set hGS hcl hL rfl (AZ AJ 4 (by kernel_rfl)) rfl hv4)
   ·intro L a w' hL hsame hsz hJ AJ hcl
    have hb:=hJ.kept
    have e0:a.eval (.tmp 37)=u6:=AV (j:=5) (by kernel_rfl) (hJ.valOf (by decide) (AZ AJ 5 (by kernel_rfl)) rfl rfl)
    refine Step.val _ rfl rfl (AX rfl) u6 w' (fun ρ hρ=>?_) (hJ.val hGS hcl hL rfl (Below.refl _ _) _ rfl)
    rw [hρ] at e0
    clear hJ hsame AJ hcl hρ hsz hb
    go_simp
   ·intro u w' hF
    change Exit.then _ _ Exit.normal (Act.put (Act.put (Act.put (Act.put (Act.put (Act.put (Act.put (Act.put (BG _ u 0 _) (some 32) (u 0)) (some 33) (u 1)) (some 34) (u 2)) (some 35) (u 3)) (some 36) (u 4)) (some 37) (u 5)) none (u 6)) (some 5) (u 7)) _
    simp only [BG]
    obtain⟨Aa,ca,fa,hia⟩:=(show EJ S' (u 4) w' from hF.fin1 (j:=4) (by decide) rfl)
    have fb:u 5=u6:=hF.QL (j:=5) (by decide) rfl rfl
    have fc:u 7=u6:=hF.QL (j:=7) (by decide) rfl rfl
    obtain⟨ds,fd,hBd⟩: ∃ds,u 4=.agg ds/\Box w' gR 43 ds:=(hF.all 6 (by decide) rfl).2.2.2.2 rfl
    obtain rfl:ds=scA (.slice Aa (S'.g.rows*S'.g.AB) ca) S':=by
     have:=fd.symm.trans fa
     cases this
     rfl
    have hk1:Kept [some gR] wr w':=hF.kept
    have hB1:Am w' gR (.slice Aa (S'.g.rows*S'.g.AB) ca) S':=hBd
    have hO9:=Bl HO.out hk1 (fun b hb hm=>by simp only [List.mem_singleton] at hm;exact Ac HO.out HR.out (by decide) (hb.trans hm))
    have hW9:=HW.out.trans (hk1.toBelow HW.out.size (fun k hh=>by simp at hh;omega))
    obtain⟨Ao,co,rfl,hco,_⟩:=Da hO9
    clear hF fd hBd hk1
    generalize u 0=z0
    generalize u 1=z1
    generalize u 2=z2
    generalize u 3=z3
    generalize u 4=z4 at fa⊢
    generalize u 5=z5 at fb⊢
    generalize u 6=z6
    generalize u 7=z7 at fc⊢
    subst fa fb fc
    go_simp
    go_step
    go_wp2_with fail
    exact bodyPost_ret (Rx rfl rfl _ rfl hB1) rfl ⟨_,Ao,co,rfl,hco,hia,Seen.CY hO9,hW9⟩
end Go.Proofs.YtoaabebgmdbjeaaGreatDoor
namespace Go.Proofs.YtoaabebgmdbjeaaGreatDoor
open Go Go.RowKit
def EvR (ev:PA.Ev) (v:Value) (w:World):Prop:= ∃A c,v=.agg #[.int .i64 ev.kind,.int .i32 0,.int .u8 ev.priv,.int .u8 ev.inter,.int .u8 ev.final,.slice A ev.params.length c,.string {data:= #[]}] /\ev.params.length<=c/\Seen w w.heap.size A ev.params.length (Br ev.params)
theorem EvR.stays {ev:PA.Ev}:Fb [] (EvR ev):=⟨fun v w w' ⟨A,c,h1,h2,h3⟩ hb=>⟨A,c,h1,h2,(h3.below hb).more hb.size⟩,fun v w w' g' T' cs' h hb hT hk=>by simp at hT⟩
def ByR (bs:List Int) (m:Nat) (v:Value) (w:World):Prop:= ∃A c,v=.slice A m c/\Seen w w.heap.size A m (u8s bs)
theorem ByR.stays {bs:List Int} {m:Nat}:Fb [] (ByR bs m):=⟨fun v w w' ⟨A,c,h1,h3⟩ hb=>⟨A,c,h1,(h3.below hb).more hb.size⟩,fun v w w' g' T' cs' h hb hT hk=>by simp at hT⟩
theorem P5 (f x:Int) (hx:x≠ -1) (w':World) (g:Nat) (hb:Box w' g 3 #[.int .i64 x]):Calls Tryz.prog 30 #[.int .u8 f,.slice (some ⟨g,0,none⟩) 1 1] w' fun e w2=> ∃A' c',e=.returned (.agg #[.int .i64 4,.int .i32 0,.int .u8 0,.int .u8 0,.int .u8 f,.slice A' 1 c',.string ⟨#[]⟩])/\1<=c'/\FH w'.heap.size w2 A' 1 (Br [x])/\Below w'.heap.size w' w2:=
 Lu (f:=f) (A:=some ⟨g,0,none⟩) (n:=1) (c:=1) (l:= [x]) (w:=w') [x] 1 (by unfold DK;rw [if_neg (by simpa using hx)]) rfl (Seen.Ec hb rfl rfl hb.lt) (by omega)
theorem Nz (w:World) (hM:IW w) (hT:KO w):Calls Tryz.prog 33 #[] w fun e w'=>e=.returned (.bool true)/\Below w.heap.size w w':=by
 have NW:=hide (fun w'=>VH 5 9 5 9 rfl rfl (by omega) (by omega) w')
 obtain⟨F,hF⟩: ∃F,((SN.full 5 9).u3 2).u4 4=F:=⟨_,rfl⟩
 have FB:F.row<=60000/\F.col<=60000/\F.top<=60000:=by subst hF;decide
 have t6:RP.said F 4 0 0 110 [6] = [27,91,51,59,53,82] :=by subst hF;kernel_rfl
 have t25:RP.said F 4 63 36 112 [25] = [27,91,63,50,53,59,49,36,121] :=by subst hF;kernel_rfl
 have t7:RP.said F 4 0 0 110 [7] = [] :=by subst hF;kernel_rfl
 have CT:=fun (k p i f:Int) (l:List Int) (n:Nat) (hn:l.length=n) (hlb: ∀x∈l, -1<=x/\x<=65535) (bs:List Int) (m:Nat) (hb:RP.said F k p i f l=bs) (hm:bs.length=m)=>hide (fun (w':World) A c A' c' (hw:Below w.heap.size w w') (hl:Seen w' w'.heap.size A' n (Br l)) (h:IsG w' F.g (gv F.g.rows F.g.AB (.slice A (F.g.rows*F.g.AB) c)))=>
  Uc F (.slice A (F.g.rows*F.g.AB) c) k 0 p i f A' n c' w'.heap.size ⟨#[]⟩ l w' bs m hb hm FB.1 FB.2.1 FB.2.2 rfl hl (Nat.le_refl _) hlb (hM.keep hw) (hT.keep hw) ⟨_,rfl,h⟩)
 have CT6:=CT 4 0 0 110 [6] 1 rfl (by decide) _ 6 t6 rfl
 have CT25:=CT 4 63 36 112 [25] 1 rfl (by decide) _ 9 t25 rfl
 have CT7:=CT 4 0 0 110 [7] 1 rfl (by decide) _ 0 t7 rfl
 have CA:=hide (fun (w':World) A' c' (hw:Below w.heap.size w w') (hl:Seen w' w'.heap.size A' 0 (Br []))=>Rs 4 0 0 0 99 A' 0 c' w'.heap.size ⟨#[]⟩ [] w' true (by decide) hl (Nat.le_refl _) (by simp) (hM.keep hw))
 have C0:=hide (fun (w':World)=>Lu (f:=99) (A:=none) (n:=0) (c:=0) (l:= []) (w:=w') [] 0 (by unfold DK;rw [if_neg (by simp)]) rfl (Seen.IV _ _ _) (by omega))
 have C6:=hide (P5 110 6 (by decide))
 have C7:=hide (P5 110 7 (by decide))
 have S6:=hide (show strOfNums [27,91,51,59,53,82] ={data:= #[27,91,51,59,53,82]} from rfl)
 have S25:=hide (show strOfNums [27,91,63,50,53,59,49,36,121] ={data:= #[27,91,63,50,53,59,49,36,121]} from rfl)
 have HF:=hide hF
 have hFg:F.g=(SN.full 5 9).g:=by subst hF;rfl
 have HFG:=hide hFg
 have LO0:=hide (Below.refl w.heap.size w)
 clear hM hT hF t6 t25 t7 CT hFg
 go_enter Tryz.func33,Tryz.ntmps33
 go_wp2_with fail
 refine(NW.out _).mono ?_
 rintro e wb1 ⟨v1,rfl,⟨x1,rfl,hg1⟩,hb1⟩
 have LO1:=hide (LO0.out.trans (hb1.mono LO0.out.size))
 clear LO0 hb1
 obtain⟨A1,c1,rfl⟩:=Af hg1
 have Na:=hide hg1
 clear hg1
 go_upto_region 2 with (first | (refine Bb rfl rfl ?_;intro gs wags csgs Ud kG Ue kH) | (refine AQ Ud kG rfl _ _ rfl rfl rfl rfl ?_;intro gU aI Uf kI))
 have nL:w.heap.size<=gs:=by have:=LO1.out.size;omega
 have Nb:=hide (Na.out.low Ue)
 have LO2:=hide (LO1.out.trans (Ue.mono LO1.out.size))
 clear Na LO1 Ue
 have Nc:=hide (Nb.out.kept Ud (by decide) Uf)
 have LO3:=hide (LO2.out.trans (Uf.toBelow LO2.out.size (fun k hh=>by simp at hh;omega)))
 clear Nb LO2
 have Gg:=hide aI
 clear aI Uf Ud kH
 clear kI
 go_simp
 have kJ:=Gg.out.fz 3
 have kK:=Gg.out.fz 4
 have kL:=(show _=some (.int .i64 (0:Nat):Value) from Gg.out.c3)
 have kM:=(show _=some (.int .i64 (0:Nat):Value) from Gg.out.c4)
 go_upto_region 3 with fail
 have hkp:=(((Kept.refl [some gs] gU).setCell (p:=⟨gs,3,none⟩) (From.mem (by simp)) (.int .i64 2)).setCell (p:=⟨gs,4,none⟩) (From.mem (by simp)) (.int .i64 4))
 have hsp:Am ((gU.setCell ⟨gs,3,none⟩ (.int .i64 2)).setCell ⟨gs,4,none⟩ (.int .i64 4)) gs _ _:=((Gg.out.Cq 2).WG 4)
 generalize ((gU.setCell ⟨gs,3,none⟩ (.int .i64 2)).setCell ⟨gs,4,none⟩ (.int .i64 4))=w3 at hkp hsp⊢
 have LZ:=hide (Nc.out.kept Gg.out (by decide) hkp)
 have LO4:=hide (LO3.out.trans (hkp.toBelow LO3.out.size (fun k hh=>by simp at hh;omega)))
 clear Nc LO3
 have Ka:=hide hsp
 clear hsp hkp Gg
 clear kJ kK kL kM
 simp only [HF.out] at*
 rw [<- HFG.out] at LZ Ka
 refine Ep (n:=31) [] (fun _=> #[]) [(0,0,0,0,0),(1,0,0,0,0),(1,0,0,0,0),(1,0,0,0,0),(0,0,0,0,0),(0,0,0,0,0),(0,0,0,0,0),(0,0,0,0,0),(1,0,0,0,0),(1,0,0,0,0),(1,0,0,0,0),(0,0,0,0,0),(0,0,0,0,0),(0,0,0,0,0),(0,0,0,0,0),(1,0,0,0,0),(0,0,0,0,0),(0,0,0,0,0),(0,0,0,0,0),(0,0,0,0,0),(1,0,0,0,0),(1,0,0,0,0),(1,0,0,0,0),(0,0,0,0,0),(0,0,0,0,0),(0,0,0,0,0),(0,0,0,0,0)] (fun j=> [(.agg (scA (.slice A1 (F.g.rows*F.g.AB) c1) F)),undef,undef,undef,(.string {data:= #[27,91,51,59,53,82]}),(.bool true),(.bool true),(.agg (scA (.slice A1 (F.g.rows*F.g.AB) c1) F)),undef,undef,undef,(.string {data:= #[27,91,63,50,53,59,49,36,121]}),(.bool true),(.bool true),(.bool true),undef,(.bool true),(.bool true),(.bool true),(.agg (scA (.slice A1 (F.g.rows*F.g.AB) c1) F)),undef,undef,undef,(.int .i64 0),(.bool true),(.bool true),(.bool true)].getD j undef) [none,some (Jc 3 1 #[.int .i64 6]),some (EvR ⟨4,0,0,0,110, [6], []⟩),some (ByR [27,91,51,59,53,82] 6),none,none,none,none,some (Jc 3 1 #[.int .i64 25]),some (EvR ⟨4,0,63,36,112, [25], []⟩),some (ByR [27,91,63,50,53,59,49,36,121] 9),none,none,none,none,some (EvR ⟨4,0,0,0,99, [], []⟩),none,none,none,none,some (Jc 3 1 #[.int .i64 7]),some (EvR ⟨4,0,0,0,110, [7], []⟩),some (ByR [] 0)] (fun _=>0) (by kernel_rfl) (by kernel_rfl) (by kernel_rfl) rfl (by kernel_rfl) (Dj rfl) (fun i j h=>by revert h;exact Dj (p:=fun _=>_) rfl i) (Ah.none_ (Ah.some_ (Jc.stays (by kernel_rfl)) (Ah.some_ (EvR.stays) (Ah.some_ (ByR.stays) (Ah.none_ (Ah.none_ (Ah.none_ (Ah.none_ (Ah.some_ (Jc.stays (by kernel_rfl)) (Ah.some_ (EvR.stays) (Ah.some_ (ByR.stays) (Ah.none_ (Ah.none_ (Ah.none_ (Ah.none_ (Ah.some_ (EvR.stays) (Ah.none_ (Ah.none_ (Ah.none_ (Ah.none_ (Ah.some_ (Jc.stays (by kernel_rfl)) (Ah.some_ (EvR.stays) (Ah.some_ (ByR.stays) (Ah.nil _)))))))))))))))))))))))) (fun hGS=>bJ ⟨?_,?_,?_,?_,?_,?_,?_,?_,?_,?_,?_,?_,?_,?_,?_,?_,?_,?_,?_,?_,?_,?_,?_,?_,?_,?_,?_⟩) ?_
 ·intro L a w' hL hsame hsz hJ AJ hcl
  have hb:=hJ.kept.toBelow (Nat.le_refl _) (by simp)
  have e0:a.eval (.tmp 1)=(.pointer (some ⟨gs,0,none⟩)):=AY hsame (by kernel_rfl)
  have hx:=hJ.Ai ((show Box w3 gs 43 (scA (.slice A1 (F.g.rows*F.g.AB) c1) F) from Ka.out)) (by simp)
  exact Step.val _ rfl rfl (AX rfl) (.agg (scA (.slice A1 (F.g.rows*F.g.AB) c1) F)) w' (fun ρ hρ=>BQ hx rfl ρ _ rfl ((hρ _).symm.trans e0)) (hJ.val hGS hcl hL rfl (Below.refl _ _) _ rfl)
 ·intro L a w' hL hsame hsz hJ AJ hcl
  have hb:=hJ.kept.toBelow (Nat.le_refl _) (by simp)
  refine Step.val _ rfl rfl (AX rfl) (.slice (some ⟨w'.heap.size,0,none⟩) 1 1) (w'.alloc (.cells #[.int .i64 6] 3)) (fun ρ hρ=>?_) (hJ.pred hGS hcl hL rfl ((Below.refl _ _).alloc (Nat.le_refl _) _) _ (⟨_,rfl,Box.new w' _ _⟩))
  have ec0:ρ (.const (.int .i64 6))=(.int .i64 6):=(hρ _).symm
  clear hJ hsame AJ hcl hρ hsz hb
  go_simp
 ·intro L a w' hL hsame hsz hJ AJ hcl
  have hb:=hJ.kept.toBelow (Nat.le_refl _) (by simp)
  obtain⟨g1,hv1,hs1⟩:=(show(Jc 3 1 #[.int .i64 6]) (valOf _ 1 a) w' from hJ.CB (by decide) (AZ AJ 1 (by kernel_rfl)) rfl)
  have e1:a.eval (.tmp 6)=.slice (some ⟨g1,0,none⟩) 1 1:=AV (j:=1) (by kernel_rfl) hv1
  refine Step.call _ rfl rfl (AX rfl) 30 #[.int .u8 110,.slice (some ⟨g1,0,none⟩) 1 1] (fun ρ hρ=>?_) ?_
  ·skip
   rw [hρ] at e1
   have ec0:ρ (.const (.int .u8 110))=(.int .u8 110):=(hρ _).symm
   have ef:ρ (.func 30)=.func (.func 30) #[] #[] :=(hρ _).symm
   clear hJ hsame AJ hcl hρ hsz hb
   go_simp
  ·refine(C6.out w' _ hs1).mono ?_
   rintro e w2 ⟨A,c,rfl,hc,hs,bb⟩
   exact⟨_,rfl,hJ.pred hGS hcl hL rfl bb _ ⟨A,c,rfl,hc,hs.1⟩⟩
 ·intro L a w' hL hsame hsz hJ AJ hcl
  have hb:=hJ.kept.toBelow (Nat.le_refl _) (by simp)
  have e0:a.eval (.tmp 5)=(.agg (scA (.slice A1 (F.g.rows*F.g.AB) c1) F)):=AV (j:=0) (by kernel_rfl) (hJ.valOf (by decide) (AZ AJ 0 (by kernel_rfl)) rfl rfl)
  obtain⟨A2',c2',hv2,hc2,hs2⟩:=(show(EvR ⟨4,0,0,0,110, [6], []⟩) (valOf _ 2 a) w' from hJ.CB (by decide) (AZ AJ 2 (by kernel_rfl)) rfl)
  have e1:a.eval (.tmp 7)=.agg #[.int .i64 4,.int .i32 0,.int .u8 0,.int .u8 0,.int .u8 110,.slice A2' 1 c2',.string {data:= #[]}] :=AV (j:=2) (by kernel_rfl) hv2
  refine Step.call _ rfl rfl (AX rfl) 31 #[.agg (scA (.slice A1 (F.g.rows*F.g.AB) c1) F),.agg #[.int .i64 4,.int .i32 0,.int .u8 0,.int .u8 0,.int .u8 110,.slice A2' 1 c2',.string {data:= #[]}]] (fun ρ hρ=>?_) ?_
  ·skip
   rw [hρ] at e0 e1
   have ef:ρ (.func 31)=.func (.func 31) #[] #[] :=(hρ _).symm
   clear hJ hsame AJ hcl hρ hsz hb
   go_simp
  ·refine(CT6.out w' _ _ _ _ (LO4.out.trans (hb.mono LO4.out.size)) hs2 (LZ.out.low hb)).mono ?_
   rintro e w2 ⟨A,c,rfl,hc,hs,bb⟩
   exact⟨_,rfl,hJ.pred hGS hcl hL rfl bb _ ⟨A,c,rfl,hs⟩⟩
 ·intro L a w' hL hsame hsz hJ AJ hcl
  have hb:=hJ.kept.toBelow (Nat.le_refl _) (by simp)
  obtain⟨A3',c3',hv3,hs3⟩:=(show(ByR [27,91,51,59,53,82] 6) (valOf _ 3 a) w' from hJ.CB (by decide) (AZ AJ 3 (by kernel_rfl)) rfl)
  have e0:a.eval (.tmp 8)=.slice A3' 6 c3':=AV (j:=3) (by kernel_rfl) hv3
  refine Step.val _ rfl rfl (AX rfl) (.string {data:= #[27,91,51,59,53,82]}) w' (fun ρ hρ=>?_) (hJ.val hGS hcl hL rfl (Below.refl _ _) _ rfl)
  rw [hρ] at e0
  clear hJ hsame AJ hcl hρ hsz hb
  have cv:=Fy (c:=c3') hs3
  rw [S6.out] at cv
  go_simp
 ·intro L a w' hL hsame hsz hJ AJ hcl
  have hb:=hJ.kept.toBelow (Nat.le_refl _) (by simp)
  have e0:a.eval (.tmp 9)=(.string {data:= #[27,91,51,59,53,82]}):=AV (j:=4) (by kernel_rfl) (hJ.valOf (by decide) (AZ AJ 4 (by kernel_rfl)) rfl rfl)
  refine Step.val _ rfl rfl (AX rfl) (.bool true) w' (fun ρ hρ=>?_) (hJ.val hGS hcl hL rfl (Below.refl _ _) _ rfl)
  rw [hρ] at e0
  have ec0:ρ (.const (.string {data:= #[27,91,51,59,53,82]}))=(.string {data:= #[27,91,51,59,53,82]}):=(hρ _).symm
  clear hJ hsame AJ hcl hρ hsz hb
  go_simp
 ·intro L a w' hL hsame hsz hJ AJ hcl
  have hb:=hJ.kept.toBelow (Nat.le_refl _) (by simp)
  have e0:a.eval (.tmp 10)=(.bool true):=AV (j:=5) (by kernel_rfl) (hJ.valOf (by decide) (AZ AJ 5 (by kernel_rfl)) rfl rfl)
  refine Step.val _ rfl rfl (AX rfl) (.bool true) w' (fun ρ hρ=>?_) (hJ.val hGS hcl hL rfl (Below.refl _ _) _ rfl)
  rw [hρ] at e0
  clear hJ hsame AJ hcl hρ hsz hb
  go_simp
 ·intro L a w' hL hsame hsz hJ AJ hcl
  have gd:valOf _ 6 a=.bool true:=hJ.valOf (by decide) (AZ AJ 6 (by kernel_rfl)) rfl rfl
  have hb:=hJ.kept.toBelow (Nat.le_refl _) (by simp)
  have e0:a.eval (.tmp 1)=(.pointer (some ⟨gs,0,none⟩)):=AY hsame (by kernel_rfl)
  have hx:=hJ.Ai ((show Box w3 gs 43 (scA (.slice A1 (F.g.rows*F.g.AB) c1) F) from Ka.out)) (by simp)
  exact Step.val _ rfl rfl (CG (g:=6) (b:=true) rfl gd) (.agg (scA (.slice A1 (F.g.rows*F.g.AB) c1) F)) w' (fun ρ hρ=>BQ hx rfl ρ _ rfl ((hρ _).symm.trans e0)) (hJ.val hGS hcl hL rfl (Below.refl _ _) _ rfl)
 ·intro L a w' hL hsame hsz hJ AJ hcl
  have gd:valOf _ 6 a=.bool true:=hJ.valOf (by decide) (AZ AJ 6 (by kernel_rfl)) rfl rfl
  have hb:=hJ.kept.toBelow (Nat.le_refl _) (by simp)
  refine Step.val _ rfl rfl (CG (g:=6) (b:=true) rfl gd) (.slice (some ⟨w'.heap.size,0,none⟩) 1 1) (w'.alloc (.cells #[.int .i64 25] 3)) (fun ρ hρ=>?_) (hJ.pred hGS hcl hL rfl ((Below.refl _ _).alloc (Nat.le_refl _) _) _ (⟨_,rfl,Box.new w' _ _⟩))
  have ec0:ρ (.const (.int .i64 25))=(.int .i64 25):=(hρ _).symm
  clear hJ hsame AJ hcl hρ hsz hb gd
  go_simp
 ·intro L a w' hL hsame hsz hJ AJ hcl
  have gd:valOf _ 6 a=.bool true:=hJ.valOf (by decide) (AZ AJ 6 (by kernel_rfl)) rfl rfl
  have hb:=hJ.kept.toBelow (Nat.le_refl _) (by simp)
  obtain⟨g8,hv8,hs8⟩:=(show(Jc 3 1 #[.int .i64 25]) (valOf _ 8 a) w' from hJ.CB (by decide) (AZ AJ 8 (by kernel_rfl)) rfl)
  have e4:a.eval (.tmp 13)=.slice (some ⟨g8,0,none⟩) 1 1:=AV (j:=8) (by kernel_rfl) hv8
  refine Step.val _ rfl rfl (CG (g:=6) (b:=true) rfl gd) (.agg #[.int .i64 4,.int .i32 0,.int .u8 63,.int .u8 36,.int .u8 112,.slice (some ⟨g8,0,none⟩) 1 1,.string {data:= #[]}]) (w') (fun ρ hρ=>?_) (hJ.pred hGS hcl hL rfl (Below.refl _ _) _ (⟨_,1,rfl,Nat.le_refl _,Seen.Ec hs8 rfl rfl hs8.lt⟩))
  rw [hρ] at e4
  have ec0:ρ (.const (.int .i64 4))=(.int .i64 4):=(hρ _).symm
  have ec1:ρ (.const (.int .u8 63))=(.int .u8 63):=(hρ _).symm
  have ec2:ρ (.const (.int .u8 36))=(.int .u8 36):=(hρ _).symm
  have ec3:ρ (.const (.int .u8 112))=(.int .u8 112):=(hρ _).symm
  clear hJ hsame AJ hcl hρ hsz hb gd
  go_simp
 ·intro L a w' hL hsame hsz hJ AJ hcl
  have gd:valOf _ 6 a=.bool true:=hJ.valOf (by decide) (AZ AJ 6 (by kernel_rfl)) rfl rfl
  have hb:=hJ.kept.toBelow (Nat.le_refl _) (by simp)
  have e0:a.eval (.tmp 12)=(.agg (scA (.slice A1 (F.g.rows*F.g.AB) c1) F)):=AV (j:=7) (by kernel_rfl) (hJ.valOf (by decide) (AZ AJ 7 (by kernel_rfl)) rfl rfl)
  obtain⟨A9',c9',hv9,hc9,hs9⟩:=(show(EvR ⟨4,0,63,36,112, [25], []⟩) (valOf _ 9 a) w' from hJ.CB (by decide) (AZ AJ 9 (by kernel_rfl)) rfl)
  have e1:a.eval (.tmp 14)=.agg #[.int .i64 4,.int .i32 0,.int .u8 63,.int .u8 36,.int .u8 112,.slice A9' 1 c9',.string {data:= #[]}] :=AV (j:=9) (by kernel_rfl) hv9
  refine Step.call _ rfl rfl (CG (g:=6) (b:=true) rfl gd) 31 #[.agg (scA (.slice A1 (F.g.rows*F.g.AB) c1) F),.agg #[.int .i64 4,.int .i32 0,.int .u8 63,.int .u8 36,.int .u8 112,.slice A9' 1 c9',.string {data:= #[]}]] (fun ρ hρ=>?_) ?_
  ·skip
   rw [hρ] at e0 e1
   have ef:ρ (.func 31)=.func (.func 31) #[] #[] :=(hρ _).symm
   clear hJ hsame AJ hcl hρ hsz hb gd
   go_simp
  ·refine(CT25.out w' _ _ _ _ (LO4.out.trans (hb.mono LO4.out.size)) hs9 (LZ.out.low hb)).mono ?_
   rintro e w2 ⟨A,c,rfl,hc,hs,bb⟩
   exact⟨_,rfl,hJ.pred hGS hcl hL rfl bb _ ⟨A,c,rfl,hs⟩⟩
 ·intro L a w' hL hsame hsz hJ AJ hcl
  have gd:valOf _ 6 a=.bool true:=hJ.valOf (by decide) (AZ AJ 6 (by kernel_rfl)) rfl rfl
  have hb:=hJ.kept.toBelow (Nat.le_refl _) (by simp)
  obtain⟨Ua,Rn,hv10,hs10⟩:=(show(ByR [27,91,63,50,53,59,49,36,121] 9) (valOf _ 10 a) w' from hJ.CB (by decide) (AZ AJ 10 (by kernel_rfl)) rfl)
  have e0:a.eval (.tmp 15)=.slice Ua 9 Rn:=AV (j:=10) (by kernel_rfl) hv10
  refine Step.val _ rfl rfl (CG (g:=6) (b:=true) rfl gd) (.string {data:= #[27,91,63,50,53,59,49,36,121]}) w' (fun ρ hρ=>?_) (hJ.val hGS hcl hL rfl (Below.refl _ _) _ rfl)
  rw [hρ] at e0
  clear hJ hsame AJ hcl hρ hsz hb gd
  have cv:=Fy (c:=Rn) hs10
  rw [S25.out] at cv
  go_simp
 ·intro L a w' hL hsame hsz hJ AJ hcl
  have gd:valOf _ 6 a=.bool true:=hJ.valOf (by decide) (AZ AJ 6 (by kernel_rfl)) rfl rfl
  have hb:=hJ.kept.toBelow (Nat.le_refl _) (by simp)
  have e0:a.eval (.tmp 16)=(.string {data:= #[27,91,63,50,53,59,49,36,121]}):=AV (j:=11) (by kernel_rfl) (hJ.valOf (by decide) (AZ AJ 11 (by kernel_rfl)) rfl rfl)
  refine Step.val _ rfl rfl (CG (g:=6) (b:=true) rfl gd) (.bool true) w' (fun ρ hρ=>?_) (hJ.val hGS hcl hL rfl (Below.refl _ _) _ rfl)
  rw [hρ] at e0
  have ec0:ρ (.const (.string {data:= #[27,91,63,50,53,59,49,36,121]}))=(.string {data:= #[27,91,63,50,53,59,49,36,121]}):=(hρ _).symm
  clear hJ hsame AJ hcl hρ hsz hb gd
  go_simp
 ·intro L a w' hL hsame hsz hJ AJ hcl
  have hb:=hJ.kept.toBelow (Nat.le_refl _) (by simp)
  have e0:a.eval (.tmp 11)=(.bool true):=AV (j:=6) (by kernel_rfl) (hJ.valOf (by decide) (AZ AJ 6 (by kernel_rfl)) rfl rfl)
  have e1:a.eval (.tmp 17)=(.bool true):=AV (j:=12) (by kernel_rfl) (hJ.valOf (by decide) (AZ AJ 12 (by kernel_rfl)) rfl rfl)
  refine Step.val _ rfl rfl (AX rfl) (.bool true) w' (fun ρ hρ=>?_) (hJ.val hGS hcl hL rfl (Below.refl _ _) _ rfl)
  rw [hρ] at e0 e1
  have ec0:ρ (.const (.bool false))=(.bool false):=(hρ _).symm
  clear hJ hsame AJ hcl hρ hsz hb
  go_simp
 ·intro L a w' hL hsame hsz hJ AJ hcl
  have hb:=hJ.kept.toBelow (Nat.le_refl _) (by simp)
  have e0:a.eval (.tmp 18)=(.bool true):=AV (j:=13) (by kernel_rfl) (hJ.valOf (by decide) (AZ AJ 13 (by kernel_rfl)) rfl rfl)
  refine Step.val _ rfl rfl (AX rfl) (.bool true) w' (fun ρ hρ=>?_) (hJ.val hGS hcl hL rfl (Below.refl _ _) _ rfl)
  rw [hρ] at e0
  clear hJ hsame AJ hcl hρ hsz hb
  go_simp
 ·intro L a w' hL hsame hsz hJ AJ hcl
  have gd:valOf _ 14 a=.bool true:=hJ.valOf (by decide) (AZ AJ 14 (by kernel_rfl)) rfl rfl
  have hb:=hJ.kept.toBelow (Nat.le_refl _) (by simp)
  refine Step.call _ rfl rfl (CG (g:=14) (b:=true) rfl gd) 30 #[.int .u8 99,.slice none 0 0] (fun ρ hρ=>?_) ?_
  ·skip
   have ec0:ρ (.const (.int .u8 99))=(.int .u8 99):=(hρ _).symm
   have ec1:ρ (.const (.slice none 0 0))=(.slice none 0 0):=(hρ _).symm
   have ef:ρ (.func 30)=.func (.func 30) #[] #[] :=(hρ _).symm
   clear hJ hsame AJ hcl hρ hsz hb gd
   go_simp
  ·refine(C0.out w').mono ?_
   rintro e w2 ⟨A,c,rfl,hc,hs,bb⟩
   exact⟨_,rfl,hJ.pred hGS hcl hL rfl bb _ ⟨A,c,rfl,hc,hs.1⟩⟩
 ·intro L a w' hL hsame hsz hJ AJ hcl
  have gd:valOf _ 14 a=.bool true:=hJ.valOf (by decide) (AZ AJ 14 (by kernel_rfl)) rfl rfl
  have hb:=hJ.kept.toBelow (Nat.le_refl _) (by simp)
  obtain⟨nM,nN,hv15,hc15,hs15⟩:=(show(EvR ⟨4,0,0,0,99, [], []⟩) (valOf _ 15 a) w' from hJ.CB (by decide) (AZ AJ 15 (by kernel_rfl)) rfl)
  have e0:a.eval (.tmp 20)=.agg #[.int .i64 4,.int .i32 0,.int .u8 0,.int .u8 0,.int .u8 99,.slice nM 0 nN,.string {data:= #[]}] :=AV (j:=15) (by kernel_rfl) hv15
  refine Step.call _ rfl rfl (CG (g:=14) (b:=true) rfl gd) 70 #[.agg #[.int .i64 4,.int .i32 0,.int .u8 0,.int .u8 0,.int .u8 99,.slice nM 0 nN,.string {data:= #[]}]] (fun ρ hρ=>?_) ?_
  ·skip
   rw [hρ] at e0
   have ef:ρ (.func 70)=.func (.func 70) #[] #[] :=(hρ _).symm
   clear hJ hsame AJ hcl hρ hsz hb gd
   go_simp
  ·refine(CA.out w' _ _ (LO4.out.trans (hb.mono LO4.out.size)) hs15).mono ?_
   rintro e w2 ⟨rfl,bb⟩
   exact⟨_,rfl,hJ.val hGS hcl hL rfl bb _ rfl⟩
 ·intro L a w' hL hsame hsz hJ AJ hcl
  have hb:=hJ.kept.toBelow (Nat.le_refl _) (by simp)
  have e0:a.eval (.tmp 19)=(.bool true):=AV (j:=14) (by kernel_rfl) (hJ.valOf (by decide) (AZ AJ 14 (by kernel_rfl)) rfl rfl)
  have e1:a.eval (.tmp 21)=(.bool true):=AV (j:=16) (by kernel_rfl) (hJ.valOf (by decide) (AZ AJ 16 (by kernel_rfl)) rfl rfl)
  refine Step.val _ rfl rfl (AX rfl) (.bool true) w' (fun ρ hρ=>?_) (hJ.val hGS hcl hL rfl (Below.refl _ _) _ rfl)
  rw [hρ] at e0 e1
  have ec0:ρ (.const (.bool false))=(.bool false):=(hρ _).symm
  clear hJ hsame AJ hcl hρ hsz hb
  go_simp
 ·intro L a w' hL hsame hsz hJ AJ hcl
  have hb:=hJ.kept.toBelow (Nat.le_refl _) (by simp)
  have e0:a.eval (.tmp 22)=(.bool true):=AV (j:=17) (by kernel_rfl) (hJ.valOf (by decide) (AZ AJ 17 (by kernel_rfl)) rfl rfl)
  refine Step.val _ rfl rfl (AX rfl) (.bool true) w' (fun ρ hρ=>?_) (hJ.val hGS hcl hL rfl (Below.refl _ _) _ rfl)
  rw [hρ] at e0
  clear hJ hsame AJ hcl hρ hsz hb
  go_simp
 ·intro L a w' hL hsame hsz hJ AJ hcl
  have gd:valOf _ 18 a=.bool true:=hJ.valOf (by decide) (AZ AJ 18 (by kernel_rfl)) rfl rfl
  have hb:=hJ.kept.toBelow (Nat.le_refl _) (by simp)
  have e0:a.eval (.tmp 1)=(.pointer (some ⟨gs,0,none⟩)):=AY hsame (by kernel_rfl)
  have hx:=hJ.Ai ((show Box w3 gs 43 (scA (.slice A1 (F.g.rows*F.g.AB) c1) F) from Ka.out)) (by simp)
  exact Step.val _ rfl rfl (CG (g:=18) (b:=true) rfl gd) (.agg (scA (.slice A1 (F.g.rows*F.g.AB) c1) F)) w' (fun ρ hρ=>BQ hx rfl ρ _ rfl ((hρ _).symm.trans e0)) (hJ.val hGS hcl hL rfl (Below.refl _ _) _ rfl)
 ·intro L a w' hL hsame hsz hJ AJ hcl
  have gd:valOf _ 18 a=.bool true:=hJ.valOf (by decide) (AZ AJ 18 (by kernel_rfl)) rfl rfl
  have hb:=hJ.kept.toBelow (Nat.le_refl _) (by simp)
  refine Step.val _ rfl rfl (CG (g:=18) (b:=true) rfl gd) (.slice (some ⟨w'.heap.size,0,none⟩) 1 1) (w'.alloc (.cells #[.int .i64 7] 3)) (fun ρ hρ=>?_) (hJ.pred hGS hcl hL rfl ((Below.refl _ _).alloc (Nat.le_refl _) _) _ (⟨_,rfl,Box.new w' _ _⟩))
  have ec0:ρ (.const (.int .i64 7))=(.int .i64 7):=(hρ _).symm
  clear hJ hsame AJ hcl hρ hsz hb gd
  go_simp
 ·intro L a w' hL hsame hsz hJ AJ hcl
  have gd:valOf _ 18 a=.bool true:=hJ.valOf (by decide) (AZ AJ 18 (by kernel_rfl)) rfl rfl
  have hb:=hJ.kept.toBelow (Nat.le_refl _) (by simp)
  obtain⟨g20,hv20,hs20⟩:=(show(Jc 3 1 #[.int .i64 7]) (valOf _ 20 a) w' from hJ.CB (by decide) (AZ AJ 20 (by kernel_rfl)) rfl)
  have e1:a.eval (.tmp 25)=.slice (some ⟨g20,0,none⟩) 1 1:=AV (j:=20) (by kernel_rfl) hv20
  refine Step.call _ rfl rfl (CG (g:=18) (b:=true) rfl gd) 30 #[.int .u8 110,.slice (some ⟨g20,0,none⟩) 1 1] (fun ρ hρ=>?_) ?_
  ·skip
   rw [hρ] at e1
   have ec0:ρ (.const (.int .u8 110))=(.int .u8 110):=(hρ _).symm
   have ef:ρ (.func 30)=.func (.func 30) #[] #[] :=(hρ _).symm
   clear hJ hsame AJ hcl hρ hsz hb gd
   go_simp
  ·refine(C7.out w' _ hs20).mono ?_
   rintro e w2 ⟨A,c,rfl,hc,hs,bb⟩
   exact⟨_,rfl,hJ.pred hGS hcl hL rfl bb _ ⟨A,c,rfl,hc,hs.1⟩⟩
 ·intro L a w' hL hsame hsz hJ AJ hcl
  have gd:valOf _ 18 a=.bool true:=hJ.valOf (by decide) (AZ AJ 18 (by kernel_rfl)) rfl rfl
  have hb:=hJ.kept.toBelow (Nat.le_refl _) (by simp)
  have e0:a.eval (.tmp 24)=(.agg (scA (.slice A1 (F.g.rows*F.g.AB) c1) F)):=AV (j:=19) (by kernel_rfl) (hJ.valOf (by decide) (AZ AJ 19 (by kernel_rfl)) rfl rfl)
  obtain⟨nO,nP,hv21,hc21,hs21⟩:=(show(EvR ⟨4,0,0,0,110, [7], []⟩) (valOf _ 21 a) w' from hJ.CB (by decide) (AZ AJ 21 (by kernel_rfl)) rfl)
  have e1:a.eval (.tmp 26)=.agg #[.int .i64 4,.int .i32 0,.int .u8 0,.int .u8 0,.int .u8 110,.slice nO 1 nP,.string {data:= #[]}] :=AV (j:=21) (by kernel_rfl) hv21
  refine Step.call _ rfl rfl (CG (g:=18) (b:=true) rfl gd) 31 #[.agg (scA (.slice A1 (F.g.rows*F.g.AB) c1) F),.agg #[.int .i64 4,.int .i32 0,.int .u8 0,.int .u8 0,.int .u8 110,.slice nO 1 nP,.string {data:= #[]}]] (fun ρ hρ=>?_) ?_
  ·skip
   rw [hρ] at e0 e1
   have ef:ρ (.func 31)=.func (.func 31) #[] #[] :=(hρ _).symm
   clear hJ hsame AJ hcl hρ hsz hb gd
   go_simp
  ·refine(CT7.out w' _ _ _ _ (LO4.out.trans (hb.mono LO4.out.size)) hs21 (LZ.out.low hb)).mono ?_
   rintro e w2 ⟨A,c,rfl,hc,hs,bb⟩
   exact⟨_,rfl,hJ.pred hGS hcl hL rfl bb _ ⟨A,c,rfl,hs⟩⟩
 ·intro L a w' hL hsame hsz hJ AJ hcl
  have gd:valOf _ 18 a=.bool true:=hJ.valOf (by decide) (AZ AJ 18 (by kernel_rfl)) rfl rfl
  have hb:=hJ.kept.toBelow (Nat.le_refl _) (by simp)
  obtain⟨A22',c22',hv22,hs22⟩:=(show(ByR [] 0) (valOf _ 22 a) w' from hJ.CB (by decide) (AZ AJ 22 (by kernel_rfl)) rfl)
  have e0:a.eval (.tmp 27)=.slice A22' 0 c22':=AV (j:=22) (by kernel_rfl) hv22
  refine Step.val _ rfl rfl (CG (g:=18) (b:=true) rfl gd) (.int .i64 0) w' (fun ρ hρ=>?_) (hJ.val hGS hcl hL rfl (Below.refl _ _) _ rfl)
  rw [hρ] at e0
  clear hJ hsame AJ hcl hρ hsz hb gd
  go_simp
 ·intro L a w' hL hsame hsz hJ AJ hcl
  have gd:valOf _ 18 a=.bool true:=hJ.valOf (by decide) (AZ AJ 18 (by kernel_rfl)) rfl rfl
  have hb:=hJ.kept.toBelow (Nat.le_refl _) (by simp)
  have e0:a.eval (.tmp 28)=(.int .i64 0):=AV (j:=23) (by kernel_rfl) (hJ.valOf (by decide) (AZ AJ 23 (by kernel_rfl)) rfl rfl)
  refine Step.val _ rfl rfl (CG (g:=18) (b:=true) rfl gd) (.bool true) w' (fun ρ hρ=>?_) (hJ.val hGS hcl hL rfl (Below.refl _ _) _ rfl)
  rw [hρ] at e0
  have ec0:ρ (.const (.int .i64 0))=(.int .i64 0):=(hρ _).symm
  clear hJ hsame AJ hcl hρ hsz hb gd
  go_simp
 ·intro L a w' hL hsame hsz hJ AJ hcl
  have hb:=hJ.kept.toBelow (Nat.le_refl _) (by simp)
  have e0:a.eval (.tmp 23)=(.bool true):=AV (j:=18) (by kernel_rfl) (hJ.valOf (by decide) (AZ AJ 18 (by kernel_rfl)) rfl rfl)
  have e1:a.eval (.tmp 29)=(.bool true):=AV (j:=24) (by kernel_rfl) (hJ.valOf (by decide) (AZ AJ 24 (by kernel_rfl)) rfl rfl)
  refine Step.val _ rfl rfl (AX rfl) (.bool true) w' (fun ρ hρ=>?_) (hJ.val hGS hcl hL rfl (Below.refl _ _) _ rfl)
  rw [hρ] at e0 e1
  have ec0:ρ (.const (.bool false))=(.bool false):=(hρ _).symm
  clear hJ hsame AJ hcl hρ hsz hb
  go_simp
 ·intro L a w' hL hsame hsz hJ AJ hcl
  have hb:=hJ.kept.toBelow (Nat.le_refl _) (by simp)
  have e0:a.eval (.tmp 30)=(.bool true):=AV (j:=25) (by kernel_rfl) (hJ.valOf (by decide) (AZ AJ 25 (by kernel_rfl)) rfl rfl)
  refine Step.val _ rfl rfl (AX rfl) (.bool true) w' (fun ρ hρ=>?_) (hJ.val hGS hcl hL rfl (Below.refl _ _) _ rfl)
  rw [hρ] at e0
  clear hJ hsame AJ hcl hρ hsz hb
  go_simp
 ·intro u w' hF
  change Exit.then _ _ Exit.normal (Act.put (Act.put (Act.put (Act.put (Act.put (Act.put (Act.put (Act.put (Act.put (Act.put (Act.put (Act.put (Act.put (Act.put (Act.put (Act.put (Act.put (Act.put (Act.put (Act.put (Act.put (Act.put (Act.put (Act.put (Act.put (Act.put (Act.put (BG _ u 0 _) (some 5) (u 0)) (some 6) (u 1)) (some 7) (u 2)) (some 8) (u 3)) (some 9) (u 4)) (some 10) (u 5)) (some 11) (u 6)) (some 12) (u 7)) (some 13) (u 8)) (some 14) (u 9)) (some 15) (u 10)) (some 16) (u 11)) (some 17) (u 12)) (some 18) (u 13)) (some 19) (u 14)) (some 20) (u 15)) (some 21) (u 16)) (some 22) (u 17)) (some 23) (u 18)) (some 24) (u 19)) (some 25) (u 20)) (some 26) (u 21)) (some 27) (u 22)) (some 28) (u 23)) (some 29) (u 24)) (some 30) (u 25)) (some 0) (u 26)) _
  simp only [BG]
  obtain f26:u 26=.bool true:=hF.QL (j:=26) (by decide) rfl rfl
  have hk:=hF.kept.toBelow (Nat.le_refl _) (by simp)
  clear hF
  generalize u 0=y0
  generalize u 1=y1
  generalize u 2=y2
  generalize u 3=y3
  generalize u 4=y4
  generalize u 5=y5
  generalize u 6=y6
  generalize u 7=y7
  generalize u 8=y8
  generalize u 9=y9
  generalize u 10=y10
  generalize u 11=y11
  generalize u 12=y12
  generalize u 13=y13
  generalize u 14=y14
  generalize u 15=y15
  generalize u 16=y16
  generalize u 17=y17
  generalize u 18=y18
  generalize u 19=y19
  generalize u 20=y20
  generalize u 21=y21
  generalize u 22=y22
  generalize u 23=y23
  generalize u 24=y24
  generalize u 25=y25
  generalize u 26=y26 at f26⊢
  subst f26
  go_simp
  go_step
  go_wp2_with fail
  go_ret
  exact⟨rfl,LO4.out.trans (hk.mono LO4.out.size)⟩
end Go.Proofs.YtoaabebgmdbjeaaGreatDoor
