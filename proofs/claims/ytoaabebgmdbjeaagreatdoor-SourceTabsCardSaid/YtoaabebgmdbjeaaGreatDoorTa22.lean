/- A part of the proof: ModesMap, StopMap, SourceTabs, SourceTabsAny. -/
import Derived.Test.YtoaabebgmdbjeaaGreatDoorTa21
import Derived.Maps.RangeWalk
set_option maxRecDepth 100000
set_option maxHeartbeats 16000000
set_option linter.unusedVariables false
namespace Go.Proofs.YtoaabebgmdbjeaaGreatDoor
open Go Go.RowKit Go.Maps
theorem NT:Keyed Tryz.prog 3:=int_keyed Tryz.underlying3
theorem RL (w:World):(zeroValue 4).run Tryz.prog w=.ok (.bool false) w:=by kernel_rfl
def Jj (t:SN.Sc) (D:DataW Unit):Prop:=IsMap D/\(∀kl,has D kl=true-> ∃m:Int,SN.DZ m/\kl=.int .i64 m)/\ ∀m:Int,SN.DZ m-> ∀z,D.atKey (.int .i64 m) z=.lit (.bool (SN.Rl t m))
theorem GY {n:Int}:WideAt.IsKeyLit (.int .i64 n):=trivial
theorem LP (x:Int) (h0:0<=x) (h1:x<1000):keyOf Tryz.prog 3 (.int .i64 x)=some (.int .i64 x):=by
 refine keyOf_int_mk Tryz.underlying3 ?_
 simp [Lit.wf,IntKind.min,IntKind.max,IntKind.bits,IntKind.signed]
 omega
theorem Jj.put {t:SN.Sc} {D:DataW Unit} (h:Jj t D) {n:Int} (hn:SN.DZ n) (on:Bool):Jj (SN.Eb t n on) (D.put (.int .i64 n) (.lit (.bool on))):=by
 obtain⟨h1,h2,h3⟩:=h
 refine⟨h1.put _ _,fun kl hk=>?_,fun m hm z=>?_⟩
 ·by_cases e:kl=.int .i64 n
  ·exact⟨n,hn,e⟩
  ·rw [has_put_other e] at hk
   exact h2 kl hk
 ·by_cases e:m=n
  ·subst e
   rw [atKey_put_same h1 GY,SN.TW hn]
  ·rw [atKey_put_other (fun hh=>e (by cases hh;rfl)),SN.OI hn hm e]
   exact h3 m hm z
theorem Jj.start (s:SN.Sc):Jj s (((((DataW.map [] :DataW Unit).put (.int .i64 1) (.lit (.bool s.keys))).put (.int .i64 6) (.lit (.bool s.org))).put (.int .i64 7) (.lit (.bool s.wrap))).put (.int .i64 25) (.lit (.bool s.shown))):=by
 have m0:IsMap (DataW.map [] :DataW Unit):=⟨_,rfl⟩
 have n1: ∀a b:Int,a≠b->(Lit.int .i64 a)≠(Lit.int .i64 b):=fun a b h e=>h (by cases e;rfl)
 refine⟨(((m0.put _ _).put _ _).put _ _).put _ _,fun kl hk=>?_,fun m hm z=>?_⟩
 ·by_cases e1:kl=.int .i64 25
  ·exact⟨25,by unfold SN.DZ;omega,e1⟩
  rw [has_put_other e1] at hk
  by_cases e2:kl=.int .i64 7
  ·exact⟨7,by unfold SN.DZ;omega,e2⟩
  rw [has_put_other e2] at hk
  by_cases e3:kl=.int .i64 6
  ·exact⟨6,by unfold SN.DZ;omega,e3⟩
  rw [has_put_other e3] at hk
  by_cases e4:kl=.int .i64 1
  ·exact⟨1,by unfold SN.DZ;omega,e4⟩
  rw [has_put_other e4] at hk
  simp [has] at hk
 ·rcases hm with rfl | rfl | rfl | rfl
  ·rw [atKey_put_other (n1 _ _ (by omega)),atKey_put_other (n1 _ _ (by omega)),atKey_put_other (n1 _ _ (by omega)),atKey_put_same m0 GY]
   rfl
  ·rw [atKey_put_other (n1 _ _ (by omega)),atKey_put_other (n1 _ _ (by omega)),atKey_put_same (m0.put _ _) GY]
   rfl
  ·rw [atKey_put_other (n1 _ _ (by omega)),atKey_put_same ((m0.put _ _).put _ _) GY]
   rfl
  ·rw [atKey_put_same (((m0.put _ _).put _ _).put _ _) GY]
   rfl
def IE (w:World) (g n:Nat) (t:SN.Sc):Prop:= ∃D,w.ownsMap (H:=Unit) Tryz.prog 3 (plainElem Tryz.prog 4) g n D/\Jj t D
theorem JQ {H:Type} {P:Program} {k:TypeId} {R:Value->Option (DataW H × List MemPlace)} {b n:Nat} {D:DataW H} {w w':World} {L:List (Option Nat)} (h:w.ownsMap P k R b n D) (hk:Kept L w w') (hb:some b∉L):w'.ownsMap P k R b n D:=by
 have hlt:=World.ownsMap.lt h
 obtain⟨es,clock,hb0,F,hs,hD⟩:=h
 exact⟨es,clock,(hk.block b hlt hb).trans hb0,F,hs,hD⟩
theorem IE.kept {w w':World} {g n:Nat} {t:SN.Sc} {L:List (Option Nat)} (h:IE w g n t) (hk:Kept L w w') (hb:some g∉L):IE w' g n t:=by
 obtain⟨D,h1,h2⟩:=h
 exact⟨D,JQ h1 hk hb,h2⟩
theorem IE.below {w w':World} {g n:Nat} {t:SN.Sc} (h:IE w g n t) (hb:Below w.heap.size w w'):IE w' g n t:=by
 obtain⟨D,h1,h2⟩:=h
 exact⟨D,World.ownsMap.kept h1 (Az hb none) (by simp),h2⟩
theorem IE.lt {w:World} {g n:Nat} {t:SN.Sc} (h:IE w g n t):g<w.heap.size:=by
 obtain⟨D,h1,h2⟩:=h
 exact World.ownsMap.lt h1
theorem Ma (x:Bool):plainElem (H:=Unit) Tryz.prog 4 (.bool x)=some (.lit (.bool x), []):=plainElem_bool Tryz.underlying4 x
theorem IE.LQ {w:World} {g n b:Nat} {t:SN.Sc} {T:TypeId} {cs:Array Value} (h:IE w g n t) (hb:Box w b T cs):b≠g:=fun e=>by
 obtain⟨D,⟨es,clock,h0,_⟩,_⟩:=h
 unfold Box at hb
 rw [e,h0] at hb
 cases hb
theorem IE.LU {w w':World} {g n base size m:Nat} {t:SN.Sc} {T:TypeId} {v:Value} {xs:List Value} (h:IE w g n t) (k:Kept [some g] w w') (ho:w.ownsRow base T size v m xs):w'.ownsRow base T size v m xs:=
 BN ho k fun b hb hm=>by
  rcases ho.2 with ⟨rfl,_⟩ | ⟨g',cap,cur,rfl,_,hh,_⟩
  ·cases hb
  ·obtain rfl:g'=b:=by
    have:=hb
    simp [Value.ownBlock] at this
    exact this
   obtain rfl:g'=g:=by simpa using hm
   exact h.LQ (show Box w g' _ cur from hh) rfl
theorem IE.isg {w w':World} {g n:Nat} {t:SN.Sc} {G:PG.Gr} {v:Value} (h:IE w g n t) (k:Kept [some g] w w') (hg:IsG w G v):IsG w' G v:=by
 obtain⟨s,h1,h2⟩:=hg
 exact⟨s,h1,h.LU k h2⟩
theorem IE.box {w w':World} {g n b:Nat} {t:SN.Sc} {T:TypeId} {cs:Array Value} (h:IE w g n t) (k:Kept [some g] w w') (hb:Box w b T cs):Box w' b T cs:=
 hb.kept k (by simp;exact h.LQ hb)
end Go.Proofs.YtoaabebgmdbjeaaGreatDoor
namespace Go.Proofs.YtoaabebgmdbjeaaGreatDoor
open Go Go.RowKit Go.Maps
def EL (t:Nat) (D:DataW Unit):Prop:=IsMap D/\ ∀c:Nat,c<64->D.atKey (.int .i64 (c:Int)) (.lit (.bool false))=.lit (.bool (t.testBit c))
theorem EL.put {t u:Nat} {D:DataW Unit} (h:EL t D) {c:Nat} (on:Bool) (hu: ∀i,i<64->u.testBit i=if i=c then on else t.testBit i):EL u (D.put (.int .i64 (c:Int)) (.lit (.bool on))):=by
 obtain⟨h1,h3⟩:=h
 refine⟨h1.put _ _,fun i hi=>?_⟩
 by_cases e:i=c
 ·subst e
  rw [atKey_put_same h1 GY,hu i hi,if_pos rfl]
 ·rw [atKey_put_other (fun hh=>e (by cases hh;rfl)),hu i hi,if_neg e]
  exact h3 i hi
theorem EL.start:EL 0 (DataW.map [] :DataW Unit):=by
 refine⟨⟨_,rfl⟩,fun c hc=>?_⟩
 rw [atKey_of_not_has (by simp [has])]
 simp
theorem EL.on {t:Nat} {D:DataW Unit} (h:EL t D) {c:Nat}:EL (TB.F9 t c) (D.put (.int .i64 (c:Int)) (.lit (.bool true))):=
 h.put true fun i hi=>by
  rw [TB.KP]
  by_cases e:i=c
  ·simp [e]
  ·rw [if_neg e,decide_eq_false (fun h=>e h.symm)]
   simp
theorem EL.off {t:Nat} {D:DataW Unit} (h:EL t D) {c:Nat} (hc:c<64):EL (TB.drop1 t c) (D.put (.int .i64 (c:Int)) (.lit (.bool false))):=
 h.put false fun i hi=>by
  rw [TB.Ld hc hi]
  by_cases e:i=c
  ·simp [e]
  ·rw [if_neg e,decide_eq_false (fun h=>e h.symm)]
   simp
def Ep (w:World) (g n t:Nat):Prop:= ∃D,w.ownsMap (H:=Unit) Tryz.prog 3 (plainElem Tryz.prog 4) g n D/\EL t D
theorem Ep.look {w:World} {g n t c:Nat} (h:Ep w g n t) (hc:c<64):(Instr.lookup 70 (.map (some g)) (.int .i64 (c:Int)) false).run Tryz.prog w=.ok (.bool (t.testBit c)) w:=by
 obtain⟨D,h1,h2⟩:=h
 obtain⟨b,hrun,hat⟩:=PI h1 NT Tryz.underlying70 Tryz.underlying4 (RL w) (LP (c:Int) (by omega) (by omega))
 rw [h2.2 c hc] at hat
 simp only [DataW.lit.injEq,Lit.bool.injEq] at hat
 subst hat
 exact hrun
theorem Ep.made (w:World):Ep (w.alloc (.map #[] 0)) w.heap.size 0 0:=⟨_,World.ownsMap_made w _ _ _,EL.start⟩
theorem Ep.kept {w w':World} {g n t:Nat} {L:List (Option Nat)} (h:Ep w g n t) (hk:Kept L w w') (hb:some g∉L):Ep w' g n t:=by
 obtain⟨D,h1,h2⟩:=h
 exact⟨D,JQ h1 hk hb,h2⟩
theorem Ep.below {w w':World} {g n t:Nat} (h:Ep w g n t) (hb:Below w.heap.size w w'):Ep w' g n t:=by
 obtain⟨D,h1,h2⟩:=h
 exact⟨D,World.ownsMap.kept h1 (Az hb none) (by simp),h2⟩
theorem Ep.lt {w:World} {g n t:Nat} (h:Ep w g n t):g<w.heap.size:=by
 obtain⟨D,h1,h2⟩:=h
 exact World.ownsMap.lt h1
theorem Ep.LQ {w:World} {g n b t:Nat} {T:TypeId} {cs:Array Value} (h:Ep w g n t) (hb:Box w b T cs):b≠g:=fun e=>by
 obtain⟨D,⟨es,clock,h0,_⟩,_⟩:=h
 unfold Box at hb
 rw [e,h0] at hb
 cases hb
theorem Ep.LU {w w':World} {g n t base size m:Nat} {T:TypeId} {v:Value} {xs:List Value} (h:Ep w g n t) (k:Kept [some g] w w') (ho:w.ownsRow base T size v m xs):w'.ownsRow base T size v m xs:=
 BN ho k fun b hb hm=>by
  rcases ho.2 with ⟨rfl,_⟩ | ⟨g',cap,cur,rfl,_,hh,_⟩
  ·cases hb
  ·obtain rfl:g'=b:=by
    have:=hb
    simp [Value.ownBlock] at this
    exact this
   obtain rfl:g'=g:=by simpa using hm
   exact h.LQ (show Box w g' _ cur from hh) rfl
theorem Ep.isg {w w':World} {g n t:Nat} {G:PG.Gr} {v:Value} (h:Ep w g n t) (k:Kept [some g] w w') (hg:IsG w G v):IsG w' G v:=by
 obtain⟨s,h1,h2⟩:=hg
 exact⟨s,h1,h.LU k h2⟩
theorem Ep.box {w w':World} {g n b t:Nat} {T:TypeId} {cs:Array Value} (h:Ep w g n t) (k:Kept [some g] w w') (hb:Box w b T cs):Box w' b T cs:=
 hb.kept k (by simp;exact h.LQ hb)
end Go.Proofs.YtoaabebgmdbjeaaGreatDoor
namespace Go.Proofs.YtoaabebgmdbjeaaGreatDoor
open Go Go.RowKit
theorem PK (ρ:Operand->Value) (w:World) (v:Value) (y:Operand) (hy:ρ y=v) (d:Option Tmp) (t:TypeId) (p:String) (af:Array Edge) (g:Option (Nat × Bool)):(execOp ρ ⟨d,.move y,t,p,af,g⟩).run Tryz.prog w=.ok (.value v) w:=by
 subst hy
 go_simp
theorem R9 (ρ:Operand->Value) (w:World) (x q:Int) (y:Operand) (hy:ρ y=.int .i64 x) (hc:ρ (.const (.int .i64 1))=.int .i64 1) (hq:IntKind.i64.wrap (x+1)=q) (d:Option Tmp) (p:String) (af:Array Edge) (g:Option (Nat × Bool)) (t:TypeId):(execOp ρ ⟨d,.binOp .add 3 y (.const (.int .i64 1)) 3,t,p,af,g⟩).run Tryz.prog w=.ok (.value (.int .i64 q)) w:=by
 subst hq
 go_simp
theorem VO (x:Value) (s:SN.Sc) (w:World):(Instr.field 43 (.agg (scA x s)) 2).run Tryz.prog w=.ok (.int .i64 (s.col:Nat)) w:=by kernel_rfl
theorem Mc (T:SN.Sc) (K c0 t c:Nat) (kd fn:Int) (hkd:kd≠1) (x:Int) (hx:x=(c:Int)+1) (hS:SN.Dc T K c0 t) (hc:c<K) (hK:K<=60) (w':World) (v':Value) (g1 g3:Nat) (hT:En w') (h1:Box w' g1 3 #[.int .i64 x])
  (h3:Box w' g3 34 #[.int .i64 4,.int .i32 0,.int .u8 0,.int .u8 0,.int .u8 71,.slice (some ⟨g1,0,none⟩) 1 1,.string {data:= #[]},.int .i64 kd,.int .i32 0,.int .u8 0,.int .u8 0,.int .u8 fn,.slice none 0 0,.string {data:= #[]}]) (h:IsS w' T v'):
  Calls Tryz.prog 24 #[v',.slice (some ⟨g3,0,none⟩) 2 2] w' (Am w' (SN.Bv T [ev0 4 71 [x],ev0 kd fn []])):=
 R6 T v' (some ⟨g3,0,none⟩) 2 2 [(ev0 4 71 [x],.slice (some ⟨g1,0,none⟩) 1 1),(ev0 kd fn [],.slice none 0 0)] w' hS.right (VG h3 rfl rfl (fun p hp=>by simp at hp;rcases hp with rfl | rfl;exact VF h1;exact VE)) (by omega) (Nat.le_refl _)
  (fun p hp=>by simp at hp;rcases hp with rfl | rfl;exact O8 (by omega) (by simp) (fun y hy=>by simp at hy;omega);exact O8 hkd (by simp) (fun y hy=>by cases hy)) (fun p hp=>by simp at hp;rcases hp with rfl | rfl<;>exact aG (by omega)) hT h
theorem NU (cl n_:Int) (An:Option Addr) (nn cn:Nat) (ln:List Int) (w:World) (hc: -9223372036854775808<=cl/\cl<=9223372036854775807) (hn: -9223372036854775808<=n_/\n_<=9223372036854775807) (hA:Arg .i64 w An nn cn ln) (hT:En w) (ht:Fa w):
  Calls Tryz.prog 7 #[.int .i64 cl,.int .i64 n_,.slice An nn cn] w fun e w'=>e=.returned (.bool true)/\Below w.heap.size w w':=by
 have HT:=hide hT
 have HTB:=hide ht
 have HA:=hide hA
 have LO0:=hide (Below.refl w.heap.size w)
 have hmm:= @run_makeMap Tryz.prog
 have jJ:=hA.cap
 have hlen:=hA.le
 unfold maxLen at jJ
 obtain⟨K,hK⟩: ∃K:Nat,2+cl%(50-2+1)=(K:Int):=⟨(2+cl%(50-2+1)).toNat,by omega⟩
 have hK1:2<=K/\K<=50:=by omega
 have hin: ∀x:Int, ∃c:Nat,0+x%(((K:Int)-1)-0+1)=(c:Int)/\c<K:=fun x=>by
  have a:=Int.emod_nonneg x (show((K:Int)-1)-0+1≠0 by omega)
  have b:=Int.emod_lt_of_pos x (show 0<((K:Int)-1)-0+1 by omega)
  exact⟨(0+x%(((K:Int)-1)-0+1)).toNat,by omega,by omega⟩
 have HIN:=hide hin
 obtain⟨k,hk,hk1⟩:=hin n_
 have W1:=hide (fun w'=>JR cl 2 50 K hK w' hc.1 hc.2 (by omega) (by omega) (by omega))
 have W3:=hide (fun w'=>JR n_ 0 ((K:Int)-1) k hk w' hn.1 hn.2 (by omega) (by omega) (by omega))
 obtain⟨F0,hF⟩: ∃F,SN.full 2 K=F:=⟨_,rfl⟩
 have NW:=hide (fun w'=>hF▸NH 2 (K:Int) 2 K (by unfold SN.cut;omega) (by unfold SN.cut;omega) (by omega) (by omega) w')
 have S0:SN.Dc F0 K 0 F0.tabs:=by
  subst hF
  exact⟨SN.IV (by omega) (by omega) (by omega) (by omega),rfl,rfl,rfl⟩
 obtain⟨F1,hF1⟩: ∃F,SN.doS F0 4 0 0 0 103 [3] =F:=⟨_,rfl⟩
 have S1:=hide (show SN.Dc F1 K 0 0 from hF1▸SN.VL S0)
 have D3:=hide (fun w' v' g (hw:Below w.heap.size w w') (hb:Box w' g 3 #[.int .i64 3]) h=>hF1▸Zu F0 v' 4 103 [3] 1 g w' S0.right rfl (by omega) (fun x hx=>by simp at hx;omega) (by omega) (hT.keep hw) hb h)
 clear hT ht hA hF hF1 hK hk hc hn S0 hin
 go_enter Tryz.func7,Tryz.ntmps7
 go_wp2_with fail
 refine(W1.out _).mono ?_
 rintro e w' ⟨rfl,rfl⟩
 go_wp2_with fail
 clear W1
 refine(NW.out _).mono ?_
 rintro e wb1 ⟨v1,rfl,⟨x1,rfl,hg1⟩,hb1⟩
 have LO1:=hide (LO0.out.trans (hb1.mono LO0.out.size))
 clear LO0 hb1
 obtain⟨A1,c1,rfl⟩:=Ad hg1
 have jK:=hide hg1
 clear hg1
 go_upto_region 3 with (first | (refine BQ rfl rfl ?_;intro gs wags csgs O9 dW NQ dX) | (refine AJ O9 dW rfl _ _ rfl rfl rfl rfl ?_;intro J8 YD NS dY))
 have iT:w.heap.size<=gs:=by have:=LO1.out.size;omega
 have jL:=hide (jK.out.low NQ)
 have LO2:=hide (LO1.out.trans (NQ.mono LO1.out.size))
 clear jK LO1 NQ
 have jM:=hide (jL.out.kept O9 (by decide) NS)
 have LO3:=hide (LO2.out.trans (NS.toBelow LO2.out.size (fun k hh=>by simp at hh;omega)))
 clear jL LO2
 have PD:=hide YD
 clear YD NS O9 dX
 clear dY NW
 go_simp
 have HX:=hide (Box.new J8 3 #[.int .i64 3])
 have HXB:=hide ((Below.refl J8.heap.size J8).alloc (Nat.le_refl _) (.cells #[.int .i64 3] 3))
 go_wp2_with (refine AQ PD.out rfl _ rfl rfl ?_)
 refine(D3.out _ _ _ (LO3.out.trans (HXB.out.mono LO3.out.size)) HX.out ⟨_,rfl,jM.out.low HXB.out⟩).mono ?_
 rintro e w5 ⟨v5,rfl,⟨x5,rfl,hg5⟩,hb5⟩
 have hb6:=HXB.out.trans (hb5.mono HXB.out.size)
 obtain⟨A5,c5,rfl⟩:=Ad hg5
 have HB5:=hide (PD.out.below hb6 PD.out.lt)
 have HL5:=hide (LO3.out.trans (hb6.mono LO3.out.size))
 have HG5:=hide hg5
 clear hg5 hb5 hb6 HX HXB PD jM LO3 D3
 go_upto_region 4 with (refine AJ HB5.out rfl rfl _ _ rfl rfl rfl rfl ?_;intro w6 hB6 hk6 hs6)
 have HB6:=hide hB6
 have HG6:=hide (HG5.out.kept HB5.out (by decide) hk6)
 have HL6:=hide (HL5.out.trans (hk6.toBelow HL5.out.size (fun k hh=>by simp at hh;omega)))
 clear hB6 hk6 hs6 HB5 HG5 HL5
 have HM7:=hide (Ep.made w6)
 have hb7:=(Below.refl w6.heap.size w6).alloc (Nat.le_refl _) (.map #[] 0)
 have HB7:=hide (HB6.out.below hb7 HB6.out.lt)
 have HG7:=hide (HG6.out.low hb7)
 have HL7:=hide (HL6.out.trans (hb7.mono HL6.out.size))
 have hgm0:=HL6.out.size
 have hne0:gs≠w6.heap.size:=by have:=HB6.out.lt;omega
 go_upto_region 5 with fail
 generalize w6.heap.size=gm at HM7 hgm0 hne0⊢
 generalize w6.alloc (.map #[] 0)=w7 at HM7 HB7 HG7 HL7⊢
 clear hb7 HB6 HG6 HL6 hmm
 go_wp2_with fail
 go_loopw [10] (fun i wr=> ∃j t cc:Nat,j<=8/\j<=nn/\i=.int .i64 (j:Nat)/\ ∃T A c,Hid (SN.Dc T K cc t)/\Hid (Ai wr gs (.slice A (T.g.rows*T.g.AB) c) T)/\Hid (IsG wr T.g (gv T.g.rows T.g.AB (.slice A (T.g.rows*T.g.AB) c)))/\Hid (Ep wr gm j t)/\Hid (Below w.heap.size w wr)) (fun i _=>8-(intOf i).toNat)
 case atStart=>exact⟨0,0,0,by omega,Nat.zero_le _,rfl,F1,A5,c5,S1,HB7,HG7,HM7,HL7⟩
 case round=>
  rename World=>wr
  clear S1 HB7 HG7 HM7 HL7
  obtain⟨j,t,cc,hj8,hjn,rfl,T,A4,c4,ST,HB4,HG4,HM4,HL4⟩:=hrel
  obtain⟨go,hgo⟩: ∃b,decide (j<nn/\j<8)=b:=⟨_,rfl⟩
  have HGO:=hide hgo
  clear hgo
  go_upto_region 6 with fail
  go_cut [32] from 25 to 32 (fun u wx=>u=.bool go/\wx=wr)
  case first=>
   by_cases h1:j<nn
   ·by_cases h3:j<8
    ·obtain rfl:true=go:=by rw [<- HGO.out];exact(decide_eq_true ⟨h1,h3⟩).symm
     go_wp2_with fail
     go_meet
     exact⟨congrArg Value.bool (decide_eq_true (by omega)),rfl⟩
    ·obtain rfl:false=go:=by rw [<- HGO.out];exact(decide_eq_false (fun h=>h3 h.2)).symm
     go_wp2_with fail
     go_meet
     exact⟨congrArg Value.bool (decide_eq_false (by omega)),rfl⟩
   ·obtain rfl:false=go:=by rw [<- HGO.out];exact(decide_eq_false (fun h=>h1 h.1)).symm
    go_wp2_with fail
    go_meet
    exact⟨rfl,rfl⟩
  case rest=>
   obtain⟨rfl,hw⟩:=hcut
   subst hw
   rename World=>wr
   cases go with
   | true=>
    ·skip
     obtain⟨h1,h3⟩:=of_decide_eq_true HGO.out
     obtain⟨ad,u,rfl,jN,hu,hcell⟩:=(HA.out.seen.below HL4.out).at_ h1
     rw [List.getElem?_map] at hu
     obtain⟨x,hx,rfl⟩:=Option.map_eq_some_iff.1 hu
     obtain⟨x0,x1⟩:=bounds_i64 (HA.out.wf x (List.mem_of_getElem? hx))
     obtain⟨c,hc,hcK⟩:=HIN.out x
     have WI:=hide (fun w'=>JR x 0 ((K:Int)-1) c hc w' x0 x1 (by omega) (by omega) (by omega))
     have bW:ad.block<wr.heap.size:=Nat.lt_of_lt_of_le jN HL4.out.size
     have hjI:(j:Int)<nn:=by omega
     clear hu hx hc x0 x1 HGO HA HIN W3
     go_wp2_with fail
     refine(WI.out _).mono ?_
     rintro e w' ⟨rfl,rfl⟩
     go_upto_region 9 with fail
     clear WI hcell bW jN
     obtain⟨q,hq⟩: ∃q:Nat,(c:Int)+1=(q:Int):=⟨c+1,by omega⟩
     obtain⟨U,hU⟩: ∃U,SN.Bv T [ev0 4 71 [(q:Nat)],ev0 3 72 []] =U:=⟨_,rfl⟩
     have SU:=hide (show SN.Dc U K c (TB.F9 t c) from hU▸SN.YI (SN.R8 ST.out hcK hq.symm))
     have AU:=hide (fun w' v' g1 g3 (hw:Below w.heap.size w w') h1 h3 h=>hU▸Mc T K cc t c 3 72 (by omega) (q:Nat) hq.symm ST.out hcK (by omega) w' v' g1 g3 (HT.out.keep hw) h1 h3 h)
     have HQ:=hide hq
     clear hU hq
     have hx1:Box ((wr.alloc (.cells #[.int .i64 (q:Nat)] 3)).alloc (.cells #[.int .i64 4,.int .i32 0,.int .u8 0,.int .u8 0,.int .u8 71,.slice (some ⟨wr.heap.size,0,none⟩) 1 1,.string {data:= #[]},.int .i64 3,.int .i32 0,.int .u8 0,.int .u8 0,.int .u8 72,.slice none 0 0,.string {data:= #[]}] 34)) wr.heap.size 3 #[.int .i64 (q:Nat)] :=(Box.new wr 3 #[.int .i64 (q:Nat)]).alloc _
     have hx3:Box ((wr.alloc (.cells #[.int .i64 (q:Nat)] 3)).alloc (.cells #[.int .i64 4,.int .i32 0,.int .u8 0,.int .u8 0,.int .u8 71,.slice (some ⟨wr.heap.size,0,none⟩) 1 1,.string {data:= #[]},.int .i64 3,.int .i32 0,.int .u8 0,.int .u8 0,.int .u8 72,.slice none 0 0,.string {data:= #[]}] 34)) (wr.heap.size+1) 34 #[.int .i64 4,.int .i32 0,.int .u8 0,.int .u8 0,.int .u8 71,.slice (some ⟨wr.heap.size,0,none⟩) 1 1,.string {data:= #[]},.int .i64 3,.int .i32 0,.int .u8 0,.int .u8 0,.int .u8 72,.slice none 0 0,.string {data:= #[]}] :=by
      have h:=Box.new (wr.alloc (.cells #[.int .i64 (q:Nat)] 3)) 34 #[.int .i64 4,.int .i32 0,.int .u8 0,.int .u8 0,.int .u8 71,.slice (some ⟨wr.heap.size,0,none⟩) 1 1,.string {data:= #[]},.int .i64 3,.int .i32 0,.int .u8 0,.int .u8 0,.int .u8 72,.slice none 0 0,.string {data:= #[]}]
      simpa using h
     have hxb:Below wr.heap.size wr ((wr.alloc (.cells #[.int .i64 (q:Nat)] 3)).alloc (.cells #[.int .i64 4,.int .i32 0,.int .u8 0,.int .u8 0,.int .u8 71,.slice (some ⟨wr.heap.size,0,none⟩) 1 1,.string {data:= #[]},.int .i64 3,.int .i32 0,.int .u8 0,.int .u8 0,.int .u8 72,.slice none 0 0,.string {data:= #[]}] 34)):=((Below.refl wr.heap.size wr).alloc (Nat.le_refl _) _).alloc (by simp) _
     have HX1:=hide hx1
     have HX3:=hide hx3
     have HXB:=hide hxb
     clear hx1 hx3 hxb
     go_upto_region 10 with
       (refine AQ HB4.out rfl _ rfl rfl ?_
        refine Fq rfl (.int .i64 (c:Nat)) (PK _ _ _ _ rfl _ _ _ _ _) ?_
        refine Fq rfl (.int .i64 (q:Nat)) (R9 _ _ (c:Nat) (q:Nat) _ rfl rfl ((IntWalk.i64_in _ (by omega)).trans HQ.out) _ _ _ _ _) ?_
        go_step;go_simp;go_step;go_simp;go_step;go_simp;go_step;go_simp;go_step;go_simp;go_step;go_simp;go_step;go_simp;go_step;go_simp;go_step;go_simp
        go_must (refine(AU.out _ _ _ _ (HL4.out.trans (HXB.out.mono HL4.out.size)) HX1.out HX3.out ⟨_,rfl,HG4.out.low HXB.out⟩).mono ?_)
        have hxb:=HXB.out
        clear HX1 HX3 HXB AU
        rintro e w5 ⟨v5,rfl,⟨x5,rfl,hg5⟩,hb5⟩
        have hb6:=hxb.trans (hb5.mono hxb.size)
        obtain⟨A5,c5,rfl⟩:=Ad hg5
        have HB5:=hide (HB4.out.below hb6 HB4.out.lt)
        have HL5:=hide (HL4.out.trans (hb6.mono HL4.out.size))
        have HM5:=hide (HM4.out.below hb6)
        have HG5:=hide hg5
        clear hg5 hb5 hb6 hxb HB4 HG4 HL4 HM4 ST
        go_simp
        go_step
        refine AJ HB5.out rfl rfl _ _ rfl rfl rfl rfl ?_
        intro w6 hB6 hk6 hs6
        go_step
        go_simp
        go_step
        have HB6:=hide hB6
        have HG6:=hide (HG5.out.kept HB5.out (by decide) hk6)
        have HL6:=hide (HL5.out.trans (hk6.toBelow HL5.out.size (fun k hh=>by simp at hh;omega)))
        have HM6:=hide (HM5.out.kept hk6 (by simp;exact Ne.symm hne0))
        clear hB6 hk6 hs6 HB5 HG5 HL5 HM5
        obtain⟨DM,hDM,hHM⟩:=HM6.out
        go_wp2_with (at_mapUpdate;refine wpList_mapUpdate_own (H:=Unit) _ rfl _ _ _ 70 rfl 3 4 NT Tryz.underlying70 _ gm j _ rfl hDM (by unfold maxLen;omega) _ _ _ rfl rfl (LP c (by omega) (by omega)) _ [] (Ma _) ?_;intro w9 ho9 hg9)
        have hk9:=(Kept.refl [some gm] w6).grown hg9 (From.mem (by simp))
        go_roundw
        case rel=>exact⟨j+1,TB.F9 t c,c,by omega,by omega,by go_num,U,A5,c5,SU,hide (HM6.out.box hk9 HB6.out),hide (HM6.out.isg hk9 HG6.out),hide ⟨_,ho9,hHM.on⟩,hide (HL6.out.trans (hk9.toBelow HL6.out.size (fun k hh=>by simp at hh;omega)))⟩
        case measure=>simp [intOf];omega)
   | false=>
    ·skip
     clear HGO HIN
     go_wp2_with fail
     refine(W3.out _).mono ?_
     rintro e w' ⟨rfl,rfl⟩
     go_upto_region 12 with fail
     clear W3
     obtain⟨q,hq⟩: ∃q:Nat,(k:Int)+1=(q:Int):=⟨k+1,by omega⟩
     obtain⟨U,hU⟩: ∃U,SN.Bv T [ev0 4 71 [(q:Nat)],ev0 4 103 []] =U:=⟨_,rfl⟩
     have SU:=hide (show SN.Dc U K k (TB.drop1 t k) from hU▸SN.VN (SN.R8 ST.out hk1 hq.symm))
     have AU:=hide (fun w' v' g1 g3 (hw:Below w.heap.size w w') h1 h3 h=>hU▸Mc T K cc t k 4 103 (by omega) (q:Nat) hq.symm ST.out hk1 (by omega) w' v' g1 g3 (HT.out.keep hw) h1 h3 h)
     have HQ:=hide hq
     clear hU hq
     have hx1:Box ((wr.alloc (.cells #[.int .i64 (q:Nat)] 3)).alloc (.cells #[.int .i64 4,.int .i32 0,.int .u8 0,.int .u8 0,.int .u8 71,.slice (some ⟨wr.heap.size,0,none⟩) 1 1,.string {data:= #[]},.int .i64 4,.int .i32 0,.int .u8 0,.int .u8 0,.int .u8 103,.slice none 0 0,.string {data:= #[]}] 34)) wr.heap.size 3 #[.int .i64 (q:Nat)] :=(Box.new wr 3 #[.int .i64 (q:Nat)]).alloc _
     have hx3:Box ((wr.alloc (.cells #[.int .i64 (q:Nat)] 3)).alloc (.cells #[.int .i64 4,.int .i32 0,.int .u8 0,.int .u8 0,.int .u8 71,.slice (some ⟨wr.heap.size,0,none⟩) 1 1,.string {data:= #[]},.int .i64 4,.int .i32 0,.int .u8 0,.int .u8 0,.int .u8 103,.slice none 0 0,.string {data:= #[]}] 34)) (wr.heap.size+1) 34 #[.int .i64 4,.int .i32 0,.int .u8 0,.int .u8 0,.int .u8 71,.slice (some ⟨wr.heap.size,0,none⟩) 1 1,.string {data:= #[]},.int .i64 4,.int .i32 0,.int .u8 0,.int .u8 0,.int .u8 103,.slice none 0 0,.string {data:= #[]}] :=by
      have h:=Box.new (wr.alloc (.cells #[.int .i64 (q:Nat)] 3)) 34 #[.int .i64 4,.int .i32 0,.int .u8 0,.int .u8 0,.int .u8 71,.slice (some ⟨wr.heap.size,0,none⟩) 1 1,.string {data:= #[]},.int .i64 4,.int .i32 0,.int .u8 0,.int .u8 0,.int .u8 103,.slice none 0 0,.string {data:= #[]}]
      simpa using h
     have hxb:Below wr.heap.size wr ((wr.alloc (.cells #[.int .i64 (q:Nat)] 3)).alloc (.cells #[.int .i64 4,.int .i32 0,.int .u8 0,.int .u8 0,.int .u8 71,.slice (some ⟨wr.heap.size,0,none⟩) 1 1,.string {data:= #[]},.int .i64 4,.int .i32 0,.int .u8 0,.int .u8 0,.int .u8 103,.slice none 0 0,.string {data:= #[]}] 34)):=((Below.refl wr.heap.size wr).alloc (Nat.le_refl _) _).alloc (by simp) _
     have HX1:=hide hx1
     have HX3:=hide hx3
     have HXB:=hide hxb
     clear hx1 hx3 hxb
     go_upto_region 13 with
       (refine AQ HB4.out rfl _ rfl rfl ?_
        refine Fq rfl (.int .i64 (k:Nat)) (PK _ _ _ _ rfl _ _ _ _ _) ?_
        refine Fq rfl (.int .i64 (q:Nat)) (R9 _ _ (k:Nat) (q:Nat) _ rfl rfl ((IntWalk.i64_in _ (by omega)).trans HQ.out) _ _ _ _ _) ?_
        go_step;go_simp;go_step;go_simp;go_step;go_simp;go_step;go_simp;go_step;go_simp;go_step;go_simp;go_step;go_simp;go_step;go_simp;go_step;go_simp
        go_must (refine(AU.out _ _ _ _ (HL4.out.trans (HXB.out.mono HL4.out.size)) HX1.out HX3.out ⟨_,rfl,HG4.out.low HXB.out⟩).mono ?_)
        have hxb:=HXB.out
        clear HX1 HX3 HXB AU
        rintro e w5 ⟨v5,rfl,⟨x5,rfl,hg5⟩,hb5⟩
        have hb6:=hxb.trans (hb5.mono hxb.size)
        obtain⟨A5,c5,rfl⟩:=Ad hg5
        have HB5:=hide (HB4.out.below hb6 HB4.out.lt)
        have HL5:=hide (HL4.out.trans (hb6.mono HL4.out.size))
        have HM5:=hide (HM4.out.below hb6)
        have HG5:=hide hg5
        clear hg5 hb5 hb6 hxb HB4 HG4 HL4 HM4 ST
        go_simp
        go_step
        refine AJ HB5.out rfl rfl _ _ rfl rfl rfl rfl ?_
        intro w6 hB6 hk6 hs6
        go_step
        go_simp
        go_step
        have HB6:=hide hB6
        have HG6:=hide (HG5.out.kept HB5.out (by decide) hk6)
        have HL6:=hide (HL5.out.trans (hk6.toBelow HL5.out.size (fun k hh=>by simp at hh;omega)))
        have HM6:=hide (HM5.out.kept hk6 (by simp;exact Ne.symm hne0))
        clear hB6 hk6 hs6 HB5 HG5 HL5 HM5
        obtain⟨DM,hDM,hHM⟩:=HM6.out
        go_upto_region 14 with (at_mapUpdate;refine wpList_mapUpdate_own (H:=Unit) _ rfl _ _ _ 70 rfl 3 4 NT Tryz.underlying70 _ gm j _ rfl hDM (by unfold maxLen;omega) _ _ _ rfl rfl (LP k (by omega) (by omega)) _ [] (Ma _) ?_;intro w9 ho9 hg9)
        have hk9:=(Kept.refl [some gm] w6).grown hg9 (From.mem (by simp))
        obtain⟨s,hs⟩: ∃s,TB.drop1 t k=s:=⟨_,rfl⟩
        have HB9:=hide (show Ai w9 gs (.slice A5 (U.g.rows*U.g.AB) c5) U from HM6.out.box hk9 HB6.out)
        have HG9:=hide (HM6.out.isg hk9 HG6.out)
        have HM9:=hide (show Ep w9 gm (j+1) s from hs▸⟨_,ho9,hHM.off (by omega)⟩)
        have HL9:=hide (HL6.out.trans (hk9.toBelow HL6.out.size (fun k hh=>by simp at hh;omega)))
        have SU:=hide (show SN.Dc U K k s from hs▸SU.out)
        clear hk9
        clear hs
        clear ho9
        clear hg9
        clear hHM
        (try clear hDM)
        (try clear HM6)
        (try clear HB6)
        (try clear HG6)
        (try clear HL6)
        obtain⟨U10,hU⟩: ∃Uz,SN.doS U 2 0 0 0 13 [] =Uz:=⟨_,rfl⟩
        have S10:=hide (show SN.Dc U10 K 0 s from hU▸SN.Z0 (by omega) SU.out)
        have DU:=hide (fun w' v' (hw:Below w.heap.size w w') h=>hU▸NN U v' 2 13 w' SU.out.right (by omega) (HT.out.keep hw) h)
        clear hU
        go_wp2_with (refine AQ HB9.out rfl _ rfl rfl ?_)
        refine(DU.out _ _ HL9.out ⟨_,rfl,HG9.out⟩).mono ?_
        rintro e wv10 ⟨v10,rfl,⟨x10,rfl,hg10⟩,hb10⟩
        obtain⟨A10,c10,rfl⟩:=Ad hg10
        have HBx:=hide (HB9.out.below hb10 HB9.out.lt)
        have HLx:=hide (HL9.out.trans (hb10.mono HL9.out.size))
        have HMx:=hide (HM9.out.below hb10)
        have HGx:=hide hg10
        clear hg10 hb10 HB9 HG9 HL9 HM9 DU
        go_upto_region 15 with (refine AJ HBx.out rfl rfl _ _ rfl rfl rfl rfl ?_;intro w10 jO hk10 hs10)
        have Ov:=hide jO
        have Ow:=hide (HGx.out.kept HBx.out (by decide) hk10)
        have jP:=hide (HLx.out.trans (hk10.toBelow HLx.out.size (fun k hh=>by simp at hh;omega)))
        have jQ:=hide (HMx.out.kept hk10 (by simp;exact Ne.symm hne0))
        clear jO hk10 hs10 HBx HGx HLx HMx
        go_wp2_with fail
        go_loopw [13] (fun i wr=> ∃a:Nat,a<K/\i=.int .i64 (a:Nat)/\ ∃T A c,Hid (SN.Dc T K a s)/\Hid (Ai wr gs (.slice A (T.g.rows*T.g.AB) c) T)/\Hid (IsG wr T.g (gv T.g.rows T.g.AB (.slice A (T.g.rows*T.g.AB) c)))/\Hid (Ep wr gm (j+1) s)/\Hid (Below w.heap.size w wr)) (fun i _=>K-(intOf i).toNat)
        case atStart=>exact⟨0,by omega,rfl,U10,A10,c10,S10,Ov,Ow,jQ,jP⟩
        case round=>
          rename World=>wr
          clear S10 Ov Ow jQ jP SU
          obtain⟨a,haK,rfl,T2,A11,c11,S11,NV,YJ,VP,NY⟩:=hrel
          by_cases ha:a+1<K
          ·skip
           go_wp2_with fail
           go_loopw [14,15] (fun v i wx=> ∃x:Nat,a<=x/\x<K/\i=.int .i64 (x:Nat)/\v=.int .i64 (TB.next s x K:Nat)/\wx=wr) (fun _ i _=>(intOf i).toNat)
           case atStart=>exact⟨K-1,by omega,by omega,by go_num,by rw [TB.MU (by omega)];go_num,rfl⟩
           case round=>
             obtain⟨x,hx,hxK,rfl,rfl,hw⟩:=hrel
             subst hw
             rename World=>wr
             have nl:=TB.Mf (t:=s) (c:=x) (k:=K) (by omega)
             by_cases hxa:a<x
             ·skip
              have lk:=VP.out.look (c:=x) (by omega)
              have NB:=hide (TB.VK (t:=s) (c:=x) (k:=K) (by omega) hxK)
              obtain⟨b,hb⟩: ∃b,s.testBit x=b:=⟨_,rfl⟩
              rw [hb] at lk NB
              clear hb NV YJ VP NY S11
              generalize TB.next s x K=y at nl NB⊢
              cases b with
              | true=>
                go_wp2_with fail
                go_roundw
                case rel=>exact⟨x-1,by omega,by omega,by go_num,by rw [NB.out];rfl,by first | trivial | rfl⟩
                case measure=>simp [intOf];omega
              | false=>
                go_wp2_with fail
                go_roundw
                case rel=>exact⟨x-1,by omega,by omega,by go_num,by rw [NB.out];rfl,by first | trivial | rfl⟩
                case measure=>simp [intOf];omega
             obtain rfl:x=a:=by omega
             have hxx: ¬(x:Int)<(x:Int):=by omega
             clear hxa hx
             go_upto_region 23 with fail
             obtain⟨U12,hU⟩: ∃Uz,SN.doS T2 2 0 0 0 9 [] =Uz:=⟨_,rfl⟩
             have S12:=hide (show SN.Dc U12 K (TB.next s x K) s from hU▸SN.PE (by omega) S11.out)
             have DU:=hide (fun w' v' (hw:Below w.heap.size w w') h=>hU▸NN T2 v' 2 9 w' S11.out.right (by omega) (HT.out.keep hw) h)
             clear hU
             go_wp2_with (refine AQ NV.out rfl _ rfl rfl ?_)
             refine(DU.out _ _ NY.out ⟨_,rfl,YJ.out⟩).mono ?_
             rintro e wv12 ⟨v12,rfl,⟨x12,rfl,hg12⟩,hb12⟩
             obtain⟨A12,c12,rfl⟩:=Ad hg12
             have HBx:=hide (NV.out.below hb12 NV.out.lt)
             have HLx:=hide (NY.out.trans (hb12.mono NY.out.size))
             have HMx:=hide (VP.out.below hb12)
             have HGx:=hide hg12
             clear hg12 hb12 NV YJ NY VP DU
             go_upto_region 24 with (refine AJ HBx.out rfl rfl _ _ rfl rfl rfl rfl ?_;intro w12 Uk hk12 hs12)
             have jR:=hide Uk
             have HG12:=hide (HGx.out.kept HBx.out (by decide) hk12)
             have HL12:=hide (HLx.out.trans (hk12.toBelow HLx.out.size (fun k hh=>by simp at hh;omega)))
             have HM12:=hide (HMx.out.kept hk12 (by simp;exact Ne.symm hne0))
             clear Uk hk12 hs12 HBx HGx HLx HMx
             have ng:=TB.Zz (t:=s) (c:=x) (k:=K) ha
             obtain⟨y,hy⟩: ∃y,TB.next s x K=y:=⟨_,rfl⟩
             rw [hy] at S12 ng nl⊢
             have k4:w12.cell? ⟨gs,4,none⟩=some (.int .i64 (y:Nat)):=jR.out.c4.trans (by rw [S12.out.col])
             clear hy
             go_wp2_with fail
             go_roundw
             case rel=>exact⟨y,nl,by go_num,U12,A12,c12,S12,jR,HG12,HM12,HL12⟩
             case measure=>simp [intOf];omega
          obtain hae:(a:Int)=(K:Int)-1:=by omega
          have hax: ¬(a:Int)<(K:Int)-1:=by omega
          go_upto_region 27 with fail
          obtain⟨U12,hU⟩: ∃Uz,SN.doS T2 2 0 0 0 9 [] =Uz:=⟨_,rfl⟩
          have S12:=hide (show SN.Dc U12 K (TB.next s a K) s from hU▸SN.PE (by omega) S11.out)
          have DU:=hide (fun w' v' (hw:Below w.heap.size w w') h=>hU▸NN T2 v' 2 9 w' S11.out.right (by omega) (HT.out.keep hw) h)
          clear hU
          go_wp2_with (refine AQ NV.out rfl _ rfl rfl ?_)
          refine(DU.out _ _ NY.out ⟨_,rfl,YJ.out⟩).mono ?_
          rintro e wv12 ⟨v12,rfl,⟨x12,rfl,hg12⟩,hb12⟩
          obtain⟨A12,c12,rfl⟩:=Ad hg12
          have HBx:=hide (NV.out.below hb12 NV.out.lt)
          have HLx:=hide (NY.out.trans (hb12.mono NY.out.size))
          have HMx:=hide (VP.out.below hb12)
          have HGx:=hide hg12
          clear hg12 hb12 NV YJ NY VP DU
          have hcl:(U12.col:Int)=(K:Int)-1:=by
            have e:=S12.out.col
            have:=TB.MU (t:=s) (k:=K) (by omega)
            rw [show a=K-1 by omega,this] at e
            omega
          have HCL:=hide hcl
          clear hcl S12 HBx HGx HMx
          have hfc:=VO (.slice A12 (U12.g.rows*U12.g.AB) c12) U12
          rw [HCL.out] at hfc
          go_wp2_with fail
          refine(NP _ (HT.out.keep HLx.out) (HTB.out.keep HLx.out)).mono ?_
          rintro e wq5 ⟨rfl,hq5⟩
          have HLz:=hide (HLx.out.trans (hq5.mono HLx.out.size))
          clear hq5
          go_wp2_with fail
          go_ret
          exact⟨rfl,HLz.out⟩)
end Go.Proofs.YtoaabebgmdbjeaaGreatDoor
namespace Go.Proofs.YtoaabebgmdbjeaaGreatDoor
open Go.RowKit
theorem LV (cl n:Int) (As:Option Addr) (ns cs:Nat) (ls:List Int) (w:World)
  (hc:(Lit.int .i64 cl).wf=true) (hn:(Lit.int .i64 n).wf=true) (hs:Arg .i64 w As ns cs ls) (h1:EZ w) (h2:Fw w) (h3:Iw w) (h4:Cv w) (h5:Fa w):
  Calls Tryz.prog 7 #[.int .i64 cl,.int .i64 n,.slice As ns cs] w fun e w'=>e=.returned (.bool true)/\Below w.heap.size w w':=
 NU cl n As ns cs ls w (bounds_i64 hc) (bounds_i64 hn) hs ⟨h1,h2,h3,h4⟩ h5
end Go.Proofs.YtoaabebgmdbjeaaGreatDoor
