/- The contract of package grid's own Put. The contract of package grid's own Put, where nothing is put. The contracts of package grid's own Wipe. The contract of package grid's own Wipe, of no row. Rows written into a grid's cells, and grids of plain Lean: what Put, Wipe, Resize leave, as cells. Plain mathematics. The contract of package grid's own Resize. 'string(runes)' is their UTF-8; a range over such a string meets these runes. Names no function of a program but the types. The contracts of package grid's own At, Same (of the same grids), Text. The contract of package grid's own Text. The contract of package grid's own Right, of a right grid: true. -/
import Derived.Test.YtoaabebgmdbjeaaGreatDoorSb05
import Derived.Deep.DeepCutAuto
import Derived.Laws.Cover4
import Derived.Laws.RangeAny
import Derived.BigQuiet
import Derived.Deep.QuietTactic
import Derived.IntWalk
set_option maxRecDepth 100000
set_option maxHeartbeats 16000000
set_option linter.unusedVariables false
namespace Go.Proofs.YtoaabebgmdbjeaaGreatDoor
open Go.RowKit
theorem Ce {w:World} {t0 t1 t2:TypeId} {cs ds es:Array Value}:Box (((w.alloc (.cells cs t0)).alloc (.cells ds t1)).alloc (.cells es t2)) w.heap.size t0 cs/\Box (((w.alloc (.cells cs t0)).alloc (.cells ds t1)).alloc (.cells es t2)) (w.heap.size+1) t1 ds/\
  Box (((w.alloc (.cells cs t0)).alloc (.cells ds t1)).alloc (.cells es t2)) (w.heap.size+1+1) t2 es/\Below w.heap.size w (((w.alloc (.cells cs t0)).alloc (.cells ds t1)).alloc (.cells es t2)):=by
 refine⟨((Box.new w t0 cs).alloc _).alloc _,?_,?_,(((Below.refl _ _).alloc (Nat.le_refl _) _).alloc (by simp) _).alloc (by simp;omega) _⟩
 ·have h:=(Box.new (w.alloc (.cells cs t0)) t1 ds).alloc (.cells es t2)
  rw [World.size_alloc] at h
  exact h
 ·have h:=Box.new ((w.alloc (.cells cs t0)).alloc (.cells ds t1)) t2 es
  rw [World.size_alloc,World.size_alloc] at h
  exact h
def lG (w:World) (R K n m x g:Nat) (l ps:List PG.Cl) (u v:Value) (wx:World):Prop:=
 ∃c' A2 c2,u=.slice (some ⟨g,x*5,none⟩) K c'/\K<=c'/\c'<=maxLen/\v=.slice A2 m c2/\Au wx wx.heap.size A2 m ps/\
  Box wx w.heap.size 37 #[.int .i64 R,.int .i64 K,.slice (some ⟨g,0,none⟩) n n] /\Box wx (w.heap.size+1+1) 37 #[.int .i64 0,.int .i64 0,.slice none 0 0] /\
  wx.ownsRow w.heap.size 66 5 (.slice (some ⟨g,0,none⟩) n n) n (Ag l)/\Below w.heap.size w wx
theorem fZ (R K n cp B r c:Nat) (x:Int) (p:PG.Pn) (A:Option Addr) (l:List PG.Cl) (w:World) (hl:Au w B A n l) (hB:B<=w.heap.size) (hn:n=R*K) (hr:r<R) (hR:R<=40) (h0:1<=K) (hK:K<=60)
  (hx0: -2147483648<=x) (hx1:x<=2147483647) (hs:D6 w) (hm1:1<=(putCells x p).length) (hm2:c+(putCells x p).length<=K):
  Calls Tryz.prog 65 #[gv R K (.slice A n cp),.int .i64 r,.int .i64 c,.int .i32 x,pv p] w
   (GQ w R K n (spl (spl l (r*K+c) (putCells x p)) (r*K) (Dn (((spl l (r*K+c) (putCells x p)).drop (r*K)).take K)))):=by
 have hle:r*K+K<=R*K:=by rw [<- Nat.succ_mul];exact Nat.mul_le_mul_right K hr
 have hRK:R*K<=2400:=Nat.mul_le_mul hR hK
 have hlen:=hl.len
 obtain⟨i0,hi,hz0,hz1,hz2⟩:=info_parts DN
 have CL:=hide (fun w' (hb:Below w.heap.size w w')=>Il R K n cp B A l w' (hl.below (hb.mono hB)) (Nat.le_trans hB hb.size) (by omega))
 have RW:=hide (fun w' g=>GN R K r n n ⟨g,0,none⟩ w' hn (Nat.le_refl _) (by simp only [maxLen];omega) hr hR h0 hK)
 have CO:=hide (fun w' (hb:Below w.heap.size w w')=>Kk x p w' hx0 hx1 (hs.below hb hs.lt))
 have HS:=hide (fun (w':World) (B' g:Nat) (l':List PG.Cl) (h:Au w' B' (some ⟨g,0,none⟩) n l')=>Gy (K:=K) (r:=r) h hn hr h0)
 unfold gv pv at*
 unfold GQ at*
 unfold gv at*
 generalize hps:putCells x p=ps at*
 generalize hm:ps.length=m at*
 have hm:=hide hm
 have hps:=hide hps
 have hnx:r*K+K<=n:=by omega
 have hn2:n<=2400:=by omega
 clear hn hRK hle
 generalize r*K=z at*
 go_enter Tryz.func65,Tryz.ntmps65
 go_upto_region 2 with (
  go_at_call 112
  go_must (refine(CL.out _ Ce.2.2.2).mono ?_)
  rintro e w1 ⟨g,rfl,o1,b1⟩
  obtain⟨x0,x1,x2,bw⟩:=Ce (w:=w) (t0:=37) (t1:=38) (t2:=37) (cs:= #[.int .i64 R,.int .i64 K,.slice A n cp]) (ds:= #[.int .i64 p.1,.int .i64 p.2.1,.int .i64 p.2.2]) (es:= #[.int .i64 0,.int .i64 0,.slice none 0 0])
  have y0:=x0.below b1 x0.lt
  have y1:=x1.below b1 x1.lt
  have y2:=x2.below b1 x2.lt
  have bb:=bw.trans (b1.mono bw.size)
  have o1:=own_base' o1 bw.size
  obtain⟨a0,a1,a2,a3,a4,a5⟩:=y0.three
  have x0:=hide y0
  have x1:=hide y1
  have x2:=hide y2
  clear bw b1 y0 y1 y2 CL)
 go_cut [11,12] (fun u v wx=>lG w R K n m z g l ps u v wx)
 case first=>
  have n0:=Aa o1 x0.out (by decide)
  have X0:=x0.out.Cu (.int .i64 R) (.int .i64 K) (.slice (some ⟨g,0,none⟩) n n)
  have X1:=x1.out.E9 (g':=w.heap.size) (by omega) (.int .i64 R) (.int .i64 K) (.slice (some ⟨g,0,none⟩) n n)
  have X2:=x2.out.E9 (g':=w.heap.size) (by omega) (.int .i64 R) (.int .i64 K) (.slice (some ⟨g,0,none⟩) n n)
  have O:=ownsRow_setCell_other (ownsRow_setCell_other (ownsRow_setCell_other o1 (a:=⟨w.heap.size,0,none⟩) n0 (.int .i64 R)) (a:=⟨w.heap.size,1,none⟩) n0 (.int .i64 K)) (a:=⟨w.heap.size,2,none⟩) n0 (.slice (some ⟨g,0,none⟩) n n)
  have bs:=BN bb (Nat.le_refl _) (.int .i64 R) (.int .i64 K) (.slice (some ⟨g,0,none⟩) n n)
  clear a0 a1 a2 a3 a4 a5 o1 n0 x0 x1 x2 bb
  generalize (((w1.setCell ⟨w.heap.size,0,none⟩ (.int .i64 R)).setCell ⟨w.heap.size,1,none⟩ (.int .i64 K)).setCell ⟨w.heap.size,2,none⟩ (.slice (some ⟨g,0,none⟩) n n))=w0 at*
  have h0r:BQ w0 w0.drew:=(BQ.refl _).drew
  have R0: ∀w',BQ w0 w'->w'.cell? ⟨w.heap.size,0,none⟩=some (.int .i64 R):=fun w' h=>(h.box X0).three.1
  have R1: ∀w',BQ w0 w'->w'.cell? ⟨w.heap.size,1,none⟩=some (.int .i64 K):=fun w' h=>(h.box X0).three.2.1
  have R2: ∀w',BQ w0 w'->w'.cell? ⟨w.heap.size,2,none⟩=some (.slice (some ⟨g,0,none⟩) n n):=fun w' h=>(h.box X0).three.2.2.1
  have P0: ∀w',BQ w0 w'->w'.cell? ⟨w.heap.size+1,0,none⟩=some (.int .i64 p.1):=fun w' h=>(h.box X1).three.1
  have P1: ∀w',BQ w0 w'->w'.cell? ⟨w.heap.size+1,1,none⟩=some (.int .i64 p.2.1):=fun w' h=>(h.box X1).three.2.1
  have P2: ∀w',BQ w0 w'->w'.cell? ⟨w.heap.size+1,2,none⟩=some (.int .i64 p.2.2):=fun w' h=>(h.box X1).three.2.2.1
  have hA:=Lib.hid h0r
  have hC:=Lib.hid h0r
  have X0:=hide X0
  have X1:=hide X1
  have X2:=hide X2
  have O:=hide O
  have hsC: ∀(A2:Option Addr) (wC:World),Au wC wC.heap.size A2 m ps->True:=fun _ _ _=>trivial
  go_region_held3 (fun w'=>BQ w0 w')
   (first | with_reducible exact h0r | with_reducible exact hA.out | with_reducible exact hC.out)
   (first
    | (go_at_call 66;refine(RW.out _ g).mono ?_;rintro e wR ⟨⟨cR,rfl,hcR,hcM⟩,bR⟩;have hA:=Lib.hid (BQ.call (by assumption) bR);have hbR:=Lib.hid bR)
    | (go_at_call 113;refine(CO.out _ (bs.trans (Below.mono (show BQ w0 _ from by assumption) bs.size))).mono ?_;rintro e wC ⟨⟨A2,c2,rfl,hsC,_,_⟩,bC⟩;have hC:=Lib.hid (BQ.call (by assumption) bC);have hbC:=Lib.hid bC;have hsC:=Lib.hid hsC))
  all_goals
   go_wp2_with fail
   go_meet
   refine⟨cR,A2,c2,rfl,hcR,hcM,rfl,?_,BQ.box (by first | with_reducible exact hC.out | with_reducible exact hA.out) X0.out,BQ.box (by first | with_reducible exact hC.out | with_reducible exact hA.out) X2.out,O.out.kept (BS (show BQ w0 _ from by first | with_reducible exact hC.out | with_reducible exact hA.out) none) (by simp [Value.ownBlock]),bs.trans (Below.mono (show BQ w0 _ from by first | with_reducible exact hC.out | with_reducible exact hA.out) bs.size)⟩
   first | exact hsC.out | exact(hsC.out.below hbR.out).more hbR.out.size
 case rest=>
  clear o1 x0 x1 x2 bb RW CO hl
  obtain⟨c',A2,c2,rfl,hc1,hc2,rfl,hsP,x0,x2,O,bb⟩:=hcut
  have hm0:((m:Int)==0)=false:=by simp;omega
  obtain⟨l2,e2⟩: ∃l2,spl l (z+c) ps=l2:=⟨_,rfl⟩
  have e2:=hide e2
  obtain⟨a0,a1,a2,a3,a4,a5⟩:=x0.three
  obtain⟨q0,q1,q2,q3,q4,q5⟩:=x2.three
  go_wp2_with (first
   | ((with_reducible refine Hu (o:=⟨some 42,_,_,_,_,_⟩) ?_)
      go_must (refine Ck (o:=⟨some 42,_,_,_,_,_⟩) rfl (.tmp 40) (.tmp 41) 35 35 rfl 66 i0 Tryz.underlying35 hi hz1 w.heap.size 66 g _ (z+c) n n _ _ l rfl O (by omega) A2 _ m c2 m ps rfl (Nat.min_eq_left (by omega)) hsP (by omega) ?_)
      intro w2 O2 hg2
      have n0:=Aa O x0 (by decide)
      have n2:=Aa O x2 (by decide)
      have x0:=x0.grown hg2 (fun e=>n0 e.symm)
      have x2:=x2.grown hg2 (fun e=>n2 e.symm)
      have bb:=bb.grown hg2 bb.size (by rintro _ ⟨⟩;exact((O.lt g rfl).1))
      have hl2:=D5 (l:=l) (x:=z+c) (m:=ps) (by rw [hm.out];omega)
      rw [e2.out] at hl2 O2
      have hl2:=hide hl2
      have S2:=HS.out _ _ _ _ (Au.Bu O2)
      rw [add0] at S2
      have O2:=hide O2
      have x0:=hide x0
      have x2:=hide x2
      clear n0 n2 hg2 a0 a1 a2 a3 a4 a5 q0 q1 q2 q3 q4 q5 O hsP)
   | (go_at_call 114
      go_must (refine(Gz K c' _ _ _ _ S2 (Nat.le_refl _) (by omega)).mono ?_)
      rintro e w3 ⟨g3,rfl,o3,b3⟩
      have O3:=O2.out.kept (BS b3 none) (by simp [Value.ownBlock])
      have x0:=x0.out.below b3 x0.out.lt
      have x2:=x2.out.below b3 x2.out.lt
      have bb:=bb.trans (b3.mono bb.size)
      have s3:=Au.Bu o3
      have pF:=hl2.out
      clear b3 S2 o3 O2)
   | ((with_reducible refine Hu (o:=⟨some 46,_,_,_,_,_⟩) ?_)
      go_must (refine Ck (o:=⟨some 46,_,_,_,_,_⟩) rfl (.tmp 43) (.tmp 45) 35 35 rfl 66 i0 Tryz.underlying35 hi hz1 w.heap.size 66 g _ z n n _ _ l2 rfl O3 rfl _ w3.heap.size K K K (Dn ((l2.drop z).take K)) rfl (Nat.min_self K) s3 (by omega) ?_)
      intro w4 O4 hg4
      have n0:=Aa O3 x0 (by decide)
      have n2:=Aa O3 x2 (by decide)
      have x0:=x0.grown hg4 (fun e=>n0 e.symm)
      have x2:=x2.grown hg4 (fun e=>n2 e.symm)
      have bb:=bb.grown hg4 bb.size (by rintro _ ⟨⟩;exact((O3.lt g rfl).1))
      obtain⟨a0,a1,a2,a3,a4,a5⟩:=x0.three
      obtain⟨q0,q1,q2,q3,q4,q5⟩:=x2.three
      have n2:=Aa O4 x2 (by decide)
      have O4:=hide O4
      clear n0 hg4 O3 s3))
  have X:=x2.Cu (.int .i64 R) (.int .i64 K) (.slice (some ⟨g,0,none⟩) n n)
  obtain⟨j0,j1,j2,_⟩:=X.three
  refine bodyPost_ret (v:=.agg #[.int .i64 R,.int .i64 K,.slice (some ⟨g,0,none⟩) n n]) (by simp [results,Tryz.results65,go_sem,j0,j1,j2]) rfl ⟨g,rfl,?_,?_⟩
  ·rw [e2.out]
   exact ownsRow_setCell_other (ownsRow_setCell_other (ownsRow_setCell_other O4.out (a:=⟨w.heap.size+1+1,0,none⟩) n2 _) (a:=⟨w.heap.size+1+1,1,none⟩) n2 _) (a:=⟨w.heap.size+1+1,2,none⟩) n2 _
  ·exact BN bb (by omega) _ _ _
end Go.Proofs.YtoaabebgmdbjeaaGreatDoor
namespace Go.Proofs.YtoaabebgmdbjeaaGreatDoor
open Go.RowKit
def lH (w:World) (R K n m k g:Nat) (l ps:List PG.Cl) (u v:Value) (wx:World):Prop:=
 ∃U c' A2 c2,u=.slice U k c'/\k<=c'/\c'<=maxLen/\v=.slice A2 m c2/\Au wx wx.heap.size A2 m ps/\
  Box wx w.heap.size 37 #[.int .i64 R,.int .i64 K,.slice (some ⟨g,0,none⟩) n n] /\Box wx (w.heap.size+1+1) 37 #[.int .i64 0,.int .i64 0,.slice none 0 0] /\
  wx.ownsRow w.heap.size 66 5 (.slice (some ⟨g,0,none⟩) n n) n (Ag l)/\Below w.heap.size w wx
theorem Yd (R K n cp B:Nat) (r c x:Int) (p:PG.Pn) (A:Option Addr) (l:List PG.Cl) (w:World) (hl:Au w B A n l) (hB:B<=w.heap.size) (hn:n=R*K) (h1:1<=R) (hR:R<=40) (h0:1<=K) (hK:K<=60)
  (hx0: -2147483648<=x) (hx1:x<=2147483647) (hs:D6 w) (hc0: -1000<=c) (hc1:c<=1000) (ho:r<0\/(R:Int)<=r\/c<0\/(putCells x p).length=0\/(K:Int)<c+(putCells x p).length):
  Calls Tryz.prog 65 #[gv R K (.slice A n cp),.int .i64 r,.int .i64 c,.int .i32 x,pv p] w
   (GQ w R K n l):=by
 have hRK:R*K<=2400:=Nat.mul_le_mul hR hK
 have hlen:=hl.len
 obtain⟨i0,hi,hz0,hz1,hz2⟩:=info_parts DN
 have CL:=hide (fun w' (hb:Below w.heap.size w w')=>Il R K n cp B A l w' (hl.below (hb.mono hB)) (Nat.le_trans hB hb.size) (by omega))
 obtain⟨k,hk,RW⟩: ∃k:Nat,(k=0\/(k=K/\0<=r/\r<R))/\ ∀(w':World) (g:Nat),Calls Tryz.prog 66 #[gv R K (.slice (some ⟨g,0,none⟩) n n),.int .i64 r] w' fun e w''=>(∃U c',e=.returned (.slice U k c')/\k<=c'/\c'<=maxLen)/\Below w'.heap.size w' w'':=by
  by_cases hr:0<=r/\r<R
  ·obtain⟨q,rfl⟩:=Int.eq_ofNat_of_zero_le hr.1
   refine⟨K,.inr ⟨rfl,hr⟩,fun w' g=>(GN R K q n n ⟨g,0,none⟩ w' hn (Nat.le_refl _) (by simp only [maxLen];omega) (by omega) hR h0 hK).mono ?_⟩
   rintro e w'' ⟨⟨c',he,h1,h2⟩,hb⟩
   exact⟨⟨_,c',he,h1,h2⟩,hb⟩
  ·refine⟨0,.inl rfl,fun w' g=>(Ud R K n n r _ w' hn h1 (by omega) hR h0 hK).mono ?_⟩
   rintro e w'' ⟨he,hb⟩
   exact⟨⟨none,0,he,Nat.le_refl _,Nat.zero_le _⟩,hb⟩
 have RW:=hide RW
 have CO:=hide (fun w' (hb:Below w.heap.size w w')=>Kk x p w' hx0 hx1 (hs.below hb hs.lt))
 unfold gv pv at*
 unfold GQ at*
 unfold gv at*
 generalize hps:putCells x p=ps at*
 generalize hm:ps.length=m at*
 have hm:=hide hm
 have hps:=hide hps
 have hcs:m=0\/(1<=m/\c<0)\/(1<=m/\0<=c/\(k:Int)<c+m):=by omega
 have hn2:n<=2400:=by omega
 have hk60:k<=60:=by omega
 clear hk
 have hm8:m<=8:=by have h:=Ji x p;rw [hps.out,hm.out] at h;have:=PG.FX x;omega
 clear hn hRK ho
 go_enter Tryz.func65,Tryz.ntmps65
 go_upto_region 2 with (
  go_at_call 112
  go_must (refine(CL.out _ Ce.2.2.2).mono ?_)
  rintro e w1 ⟨g,rfl,o1,b1⟩
  obtain⟨x0,x1,x2,bw⟩:=Ce (w:=w) (t0:=37) (t1:=38) (t2:=37) (cs:= #[.int .i64 R,.int .i64 K,.slice A n cp]) (ds:= #[.int .i64 p.1,.int .i64 p.2.1,.int .i64 p.2.2]) (es:= #[.int .i64 0,.int .i64 0,.slice none 0 0])
  have y0:=x0.below b1 x0.lt
  have y1:=x1.below b1 x1.lt
  have y2:=x2.below b1 x2.lt
  have bb:=bw.trans (b1.mono bw.size)
  have o1:=own_base' o1 bw.size
  obtain⟨a0,a1,a2,a3,a4,a5⟩:=y0.three
  have x0:=hide y0
  have x1:=hide y1
  have x2:=hide y2
  clear bw b1 y0 y1 y2 CL)
 go_cut [11,12] (fun u v wx=>lH w R K n m k g l ps u v wx)
 case first=>
  have n0:=Aa o1 x0.out (by decide)
  have X0:=x0.out.Cu (.int .i64 R) (.int .i64 K) (.slice (some ⟨g,0,none⟩) n n)
  have X1:=x1.out.E9 (g':=w.heap.size) (by omega) (.int .i64 R) (.int .i64 K) (.slice (some ⟨g,0,none⟩) n n)
  have X2:=x2.out.E9 (g':=w.heap.size) (by omega) (.int .i64 R) (.int .i64 K) (.slice (some ⟨g,0,none⟩) n n)
  have O:=ownsRow_setCell_other (ownsRow_setCell_other (ownsRow_setCell_other o1 (a:=⟨w.heap.size,0,none⟩) n0 (.int .i64 R)) (a:=⟨w.heap.size,1,none⟩) n0 (.int .i64 K)) (a:=⟨w.heap.size,2,none⟩) n0 (.slice (some ⟨g,0,none⟩) n n)
  have bs:=BN bb (Nat.le_refl _) (.int .i64 R) (.int .i64 K) (.slice (some ⟨g,0,none⟩) n n)
  clear a0 a1 a2 a3 a4 a5 o1 n0 x0 x1 x2 bb
  generalize (((w1.setCell ⟨w.heap.size,0,none⟩ (.int .i64 R)).setCell ⟨w.heap.size,1,none⟩ (.int .i64 K)).setCell ⟨w.heap.size,2,none⟩ (.slice (some ⟨g,0,none⟩) n n))=w0 at*
  have h0r:BQ w0 w0.drew:=(BQ.refl _).drew
  have R0: ∀w',BQ w0 w'->w'.cell? ⟨w.heap.size,0,none⟩=some (.int .i64 R):=fun w' h=>(h.box X0).three.1
  have R1: ∀w',BQ w0 w'->w'.cell? ⟨w.heap.size,1,none⟩=some (.int .i64 K):=fun w' h=>(h.box X0).three.2.1
  have R2: ∀w',BQ w0 w'->w'.cell? ⟨w.heap.size,2,none⟩=some (.slice (some ⟨g,0,none⟩) n n):=fun w' h=>(h.box X0).three.2.2.1
  have P0: ∀w',BQ w0 w'->w'.cell? ⟨w.heap.size+1,0,none⟩=some (.int .i64 p.1):=fun w' h=>(h.box X1).three.1
  have P1: ∀w',BQ w0 w'->w'.cell? ⟨w.heap.size+1,1,none⟩=some (.int .i64 p.2.1):=fun w' h=>(h.box X1).three.2.1
  have P2: ∀w',BQ w0 w'->w'.cell? ⟨w.heap.size+1,2,none⟩=some (.int .i64 p.2.2):=fun w' h=>(h.box X1).three.2.2.1
  have hA:=Lib.hid h0r
  have hC:=Lib.hid h0r
  have X0:=hide X0
  have X1:=hide X1
  have X2:=hide X2
  have O:=hide O
  have hsC: ∀(A2:Option Addr) (wC:World),Au wC wC.heap.size A2 m ps->True:=fun _ _ _=>trivial
  go_region_held3 (fun w'=>BQ w0 w')
   (first | with_reducible exact h0r | with_reducible exact hA.out | with_reducible exact hC.out)
   (first
    | (go_at_call 66;refine(RW.out _ g).mono ?_;rintro e wR ⟨⟨UR,cR,rfl,hcR,hcM⟩,bR⟩;have hA:=Lib.hid (BQ.call (by assumption) bR);have hbR:=Lib.hid bR)
    | (go_at_call 113;refine(CO.out _ (bs.trans (Below.mono (show BQ w0 _ from by assumption) bs.size))).mono ?_;rintro e wC ⟨⟨A2,c2,rfl,hsC,_,_⟩,bC⟩;have hC:=Lib.hid (BQ.call (by assumption) bC);have hbC:=Lib.hid bC;have hsC:=Lib.hid hsC))
  all_goals
   go_wp2_with fail
   go_meet
   refine⟨UR,cR,A2,c2,rfl,hcR,hcM,rfl,?_,BQ.box (by first | with_reducible exact hC.out | with_reducible exact hA.out) X0.out,BQ.box (by first | with_reducible exact hC.out | with_reducible exact hA.out) X2.out,O.out.kept (BS (show BQ w0 _ from by first | with_reducible exact hC.out | with_reducible exact hA.out) none) (by simp [Value.ownBlock]),bs.trans (Below.mono (show BQ w0 _ from by first | with_reducible exact hC.out | with_reducible exact hA.out) bs.size)⟩
   first | exact hsC.out | exact(hsC.out.below hbR.out).more hbR.out.size
 case rest=>
  clear o1 x0 x1 x2 bb RW CO hl
  obtain⟨U,c',A2,c2,rfl,hc1',hc2,rfl,hsP,x0,x2,O,bb⟩:=hcut
  have n2:=Aa O x2 (by decide)
  have O:=hide O
  rcases hcs with h | ⟨h,h'⟩ | ⟨h,h',h''⟩
  ·have hm0:((m:Int)==0)=true:=by simp;omega
   clear h
   obtain⟨a0,a1,a2,a3,a4,a5⟩:=x0.three
   obtain⟨q0,q1,q2,q3,q4,q5⟩:=x2.three
   go_wp2_with fail
   have X:=x2.Cu (.int .i64 R) (.int .i64 K) (.slice (some ⟨g,0,none⟩) n n)
   obtain⟨j0,j1,j2,_⟩:=X.three
   refine bodyPost_ret (v:=.agg #[.int .i64 R,.int .i64 K,.slice (some ⟨g,0,none⟩) n n]) (by simp [results,Tryz.results65,go_sem,j0,j1,j2]) rfl ⟨g,rfl,?_,?_⟩
   ·exact ownsRow_setCell_other (ownsRow_setCell_other (ownsRow_setCell_other O.out (a:=⟨w.heap.size+1+1,0,none⟩) n2 _) (a:=⟨w.heap.size+1+1,1,none⟩) n2 _) (a:=⟨w.heap.size+1+1,2,none⟩) n2 _
   ·exact BN bb (by omega) _ _ _
  all_goals
   have hm0:((m:Int)==0)=false:=by simp;omega
   obtain⟨a0,a1,a2,a3,a4,a5⟩:=x0.three
   obtain⟨q0,q1,q2,q3,q4,q5⟩:=x2.three
   go_wp2_with fail
   have X:=x2.Cu (.int .i64 R) (.int .i64 K) (.slice (some ⟨g,0,none⟩) n n)
   obtain⟨j0,j1,j2,_⟩:=X.three
   refine bodyPost_ret (v:=.agg #[.int .i64 R,.int .i64 K,.slice (some ⟨g,0,none⟩) n n]) (by simp [results,Tryz.results65,go_sem,j0,j1,j2]) rfl ⟨g,rfl,?_,?_⟩
   ·exact ownsRow_setCell_other (ownsRow_setCell_other (ownsRow_setCell_other O.out (a:=⟨w.heap.size+1+1,0,none⟩) n2 _) (a:=⟨w.heap.size+1+1,1,none⟩) n2 _) (a:=⟨w.heap.size+1+1,2,none⟩) n2 _
   ·exact BN bb (by omega) _ _ _
end Go.Proofs.YtoaabebgmdbjeaaGreatDoor
namespace Go.Proofs.YtoaabebgmdbjeaaGreatDoor
open Go.RowKit
theorem EC {w:World} {base n g cap:Nat} {e:TypeId} {l:List PG.Cl} (h:w.ownsRow base e 5 (.slice (some ⟨g,0,none⟩) n cap) n (Ag l)) {k o:Nat} (ho:(k:Nat)*5=o) {c:PG.Cl} (hk:l[k]? =some c):
  w.cell? ⟨g,o,none⟩=some (.int .i32 (PG.rn c))/\w.cell? ⟨g,o+1,none⟩=some (.int .i64 (PG.kd c))/\w.cell? ⟨g,o+2,none⟩=some (.int .i64 (PG.pn c).1)/\w.cell? ⟨g,o+3,none⟩=some (.int .i64 (PG.pn c).2.1)/\w.cell? ⟨g,o+4,none⟩=some (.int .i64 (PG.pn c).2.2)/\
  w.frozen? ⟨g,o,none⟩=false/\w.frozen? ⟨g,o+1,none⟩=false/\w.frozen? ⟨g,o+2,none⟩=false/\w.frozen? ⟨g,o+3,none⟩=false/\w.frozen? ⟨g,o+4,none⟩=false:=by
 subst ho
 exact IK h hk
theorem Eu {w:World} {base n g cap:Nat} {e:TypeId} {l:List PG.Cl} (h:w.ownsRow base e 5 (.slice (some ⟨g,0,none⟩) n cap) n (Ag l)) {k o:Nat} (ho:(k:Nat)*5=o) (c:PG.Cl) (hk:k<n) (hl:l.length=n):
  (Ci w g o c).ownsRow base e 5 (.slice (some ⟨g,0,none⟩) n cap) n (Ag (l.set k c))/\w.grownBy (Ci w g o c) (some g):=by
 subst ho
 exact Eo h c hk hl
theorem Uf {l m:List PG.Cl} {x k:Nat} (c:PG.Cl) (h:x+m.length<=l.length) (hk:k<m.length):(spl l x m).set (x+k) c=spl l x (m.set k c):=by
 unfold spl
 have hx:(l.take x).length=x:=by rw [List.length_take];omega
 rw [List.append_assoc,List.set_append_right _ _ (by omega),hx,Nat.add_sub_cancel_left,List.set_append_left _ _ hk,List.length_set,List.append_assoc]
theorem Ug {l m:List PG.Cl} {x:Nat} (h:x+m.length<=l.length):((spl l x m).drop x).take m.length=m:=by
 unfold spl
 have hx:(l.take x).length=x:=by rw [List.length_take];omega
 rw [List.append_assoc,List.drop_append_of_le_length (by omega),List.drop_of_length_le (by omega),List.nil_append,List.take_append_of_le_length (Nat.le_refl _),List.take_length]
theorem Uh {l m m':List PG.Cl} {x:Nat} (h:x+m.length<=l.length) (h':m'.length=m.length):spl (spl l x m) x m'=spl l x m':=by
 have hx:(l.take x).length=x:=by rw [List.length_take];omega
 have e1:(spl l x m).take x=l.take x:=by
  unfold spl
  rw [List.append_assoc,List.take_append_of_le_length (by omega),List.take_of_length_le (by omega)]
 have e2:(spl l x m).drop (x+m'.length)=l.drop (x+m'.length):=by
  unfold spl
  rw [h',List.append_assoc,List.drop_append,List.drop_of_length_le (by omega),List.nil_append,hx,Nat.add_sub_cancel_left,List.drop_append,List.drop_of_length_le (Nat.le_refl _),List.nil_append,Nat.sub_self,List.drop_zero]
 show(spl l x m).take x++m'++(spl l x m).drop (x+m'.length)=_
 rw [e1,e2]
 rfl
theorem QB {l:List PG.Cl} {x K:Nat} (h:x+K<=l.length):spl l x ((l.drop x).take K)=l:=by
 unfold spl
 have e:((l.drop x).take K).length=K:=by rw [List.length_take,List.length_drop];omega
 rw [e, <- List.drop_drop,List.append_assoc,List.take_append_drop,List.take_append_drop]
theorem Ye (R K r n cp B a:Nat) (fr tw t:Int) (p:PG.Pn) (A:Option Addr) (l:List PG.Cl) (w:World) (hl:Au w B A n l) (hB:B<=w.heap.size) (hn:n=R*K) (hr:r<R) (hR:R<=40) (h0:1<=K) (hK:K<=60)
  (hf: -1000<=fr/\fr<=1000) (ht: -1000<=tw/\tw<=1000) (ha:(if fr<0 then (0:Int) else fr)=(a:Int)) (hT:(if (K:Int)<tw then (K:Int) else tw)=t):
  Calls Tryz.prog 199 #[gv R K (.slice A n cp),.int .i64 r,.int .i64 fr,.int .i64 tw,pv p] w (GQ w R K n (spl l (r*K) (Dn (Dp ((l.drop (r*K)).take K) a t.toNat p)))):=by
 have hle:r*K+K<=R*K:=by rw [<- Nat.succ_mul];exact Nat.mul_le_mul_right K hr
 have hRK:R*K<=2400:=Nat.mul_le_mul hR hK
 have hlen:=hl.len
 obtain⟨i0,hi,hz0,hz1,hz2⟩:=info_parts DN
 have CL:=hide (fun w' (hb:Below w.heap.size w w')=>Il R K n cp B A l w' (hl.below (hb.mono hB)) (Nat.le_trans hB hb.size) (by omega))
 have RW:=hide (fun w' g=>GN R K r n n ⟨g,0,none⟩ w' hn (Nat.le_refl _) (by simp only [maxLen];omega) hr hR h0 hK)
 have BC: ∀(p:PG.Pn) (w':World),Calls Tryz.prog 97 #[.agg #[.int .i64 p.1,.int .i64 p.2.1,.int .i64 p.2.2]] w' fun e w''=>e=.returned (.agg #[.int .i32 32,.int .i64 0,.int .i64 p.1,.int .i64 p.2.1,.int .i64 p.2.2])/\Below w'.heap.size w' w'':=fun p w'=>FP _ _ _ w'
 have BC:=hide BC
 have HS:=hide (fun (w':World) (B' g:Nat) (l':List PG.Cl) (h:Au w' B' (some ⟨g,0,none⟩) n l')=>Gy (K:=K) (r:=r) h hn hr h0)
 have ht3:t<=K/\ -1000<=t:=by rw [<- hT];split<;>omega
 have ha3:a<=1000:=by split at ha<;>omega
 unfold gv pv at*
 unfold GQ at*
 unfold gv at*
 have hnx:r*K+K<=n:=by omega
 have hn2:n<=2400:=by omega
 clear hn hRK hle
 generalize r*K=z at*
 have hrow:((l.drop z).take K).length=K:=by rw [List.length_take,List.length_drop];omega
 have hsame:=QB (l:=l) (x:=z) (K:=K) (by omega)
 obtain⟨rw_,hrw⟩: ∃q,(l.drop z).take K=q:=⟨_,rfl⟩
 rw [hrw] at hrow hsame⊢
 have hrw:=hide hrw
 have hsame:=hide hsame
 have hrow:=hide hrow
 have hlen:=hide hlen
 go_enter Tryz.func199,Tryz.ntmps199
 go_wp2_with (first
  | (go_at_call 112
     go_must (refine(CL.out _ Ce.2.2.2).mono ?_)
     rintro e w1 ⟨g,rfl,o1,b1⟩
     obtain⟨x0,x1,x2,bw⟩:=Ce (w:=w) (t0:=37) (t1:=38) (t2:=37) (cs:= #[.int .i64 R,.int .i64 K,.slice A n cp]) (ds:= #[.int .i64 p.1,.int .i64 p.2.1,.int .i64 p.2.2]) (es:= #[.int .i64 0,.int .i64 0,.slice none 0 0])
     have y0:=x0.below b1 x0.lt
     have y1:=x1.below b1 x1.lt
     have y2:=x2.below b1 x2.lt
     have bb:=bw.trans (b1.mono bw.size)
     have o1:=own_base' o1 bw.size
     obtain⟨a0,a1,a2,a3,a4,a5⟩:=y0.three
     have n0:=Aa o1 y0 (by decide)
     have X0:=hide (y0.Cu (.int .i64 R) (.int .i64 K) (.slice (some ⟨g,0,none⟩) n n))
     have X1:=hide (y1.E9 (g':=w.heap.size) (by omega) (.int .i64 R) (.int .i64 K) (.slice (some ⟨g,0,none⟩) n n))
     have X2:=hide (y2.E9 (g':=w.heap.size) (by omega) (.int .i64 R) (.int .i64 K) (.slice (some ⟨g,0,none⟩) n n))
     have O:=hide (ownsRow_setCell_other (ownsRow_setCell_other (ownsRow_setCell_other o1 (a:=⟨w.heap.size,0,none⟩) n0 (.int .i64 R)) (a:=⟨w.heap.size,1,none⟩) n0 (.int .i64 K)) (a:=⟨w.heap.size,2,none⟩) n0 (.slice (some ⟨g,0,none⟩) n n))
     have bs:=hide (BN bb (Nat.le_refl _) (.int .i64 R) (.int .i64 K) (.slice (some ⟨g,0,none⟩) n n))
     clear x0 x1 x2 bw b1 y0 y1 y2 CL o1 n0 bb)
  | (go_at_call 66
     go_must (refine(RW.out _ g).mono ?_)
     rintro e w2 ⟨⟨c',rfl,hcR,hcM⟩,bR⟩
     rw [add0]
     have x0:=X0.out.below bR X0.out.lt
     have x1:=X1.out.below bR X1.out.lt
     have x2:=X2.out.below bR X2.out.lt
     have ho:=O.out.kept (BS bR none) (by simp [Value.ownBlock])
     have bb:=bs.out.trans (bR.mono bs.out.size)
     clear X0 X1 X2 O bs bR RW))
 go_loopw [12] (fun i wr=> ∃k:Nat,a<=k/\(k<=a\/(k:Int)<=t)/\i=.int .i64 k/\Box wr w.heap.size 37 #[.int .i64 R,.int .i64 K,.slice (some ⟨g,0,none⟩) n n] /\Box wr (w.heap.size+1) 38 #[.int .i64 p.1,.int .i64 p.2.1,.int .i64 p.2.2] /\Box wr (w.heap.size+1+1) 37 #[.int .i64 0,.int .i64 0,.slice none 0 0] /\
   wr.ownsRow w.heap.size 66 5 (.slice (some ⟨g,0,none⟩) n n) n (Ag (spl l z (Dp rw_ a k p)))/\Below w.heap.size w wr)
  (fun i _=>(t-intOf i).toNat)
 case atStart=>exact⟨a,Nat.le_refl _,.inl (Nat.le_refl _),rfl,x0,x1,x2,by rw [Ep _ _ _ _ (Nat.le_refl _),hsame.out];exact ho,bb⟩
 case round=>
  clear ho bb x0 x1 x2 a0 a1 a2 a3 a4 a5 ha
  obtain⟨k,hka,hkt,rfl,x0,x1,x2,ho,hb⟩:=hrel
  obtain⟨y0,y1,y2,_⟩:=x1.three
  have l1:=x1.lt
  have l2:g<wr.heap.size:=(ho.lt g rfl).2
  have lg:w.heap.size<=g:=(ho.lt g rfl).1
  have lb:w.heap.size<=wr.heap.size:=hb.size
  by_cases hlt:(k:Int)<t
  ·have hwl:=Ee rw_ a k p
   rw [hrow.out] at hwl
   have hwl:=hide hwl
   have hsl:=hide (D5 (l:=l) (x:=z) (m:=Dp rw_ a k p) (by rw [hwl.out,hlen.out];omega))
   obtain⟨cd,hck⟩: ∃cd,(spl l z (Dp rw_ a k p))[z+k]? =some cd:=⟨_,List.getElem?_eq_getElem (by rw [hsl.out,hlen.out];omega)⟩
   have FIN: ∀w3,Below wr.heap.size wr w3->
     (w3.cell? ⟨g,z*5+k*5,none⟩=some (.int .i32 (PG.rn cd))/\w3.cell? ⟨g,z*5+k*5+1,none⟩=some (.int .i64 (PG.kd cd))/\w3.cell? ⟨g,z*5+k*5+2,none⟩=some (.int .i64 (PG.pn cd).1)/\w3.cell? ⟨g,z*5+k*5+3,none⟩=some (.int .i64 (PG.pn cd).2.1)/\w3.cell? ⟨g,z*5+k*5+4,none⟩=some (.int .i64 (PG.pn cd).2.2)/\
      w3.frozen? ⟨g,z*5+k*5,none⟩=false/\w3.frozen? ⟨g,z*5+k*5+1,none⟩=false/\w3.frozen? ⟨g,z*5+k*5+2,none⟩=false/\w3.frozen? ⟨g,z*5+k*5+3,none⟩=false/\w3.frozen? ⟨g,z*5+k*5+4,none⟩=false)/\
     Box (Ci w3 g (z*5+k*5) (PG.blank p)) w.heap.size 37 #[.int .i64 R,.int .i64 K,.slice (some ⟨g,0,none⟩) n n] /\Box (Ci w3 g (z*5+k*5) (PG.blank p)) (w.heap.size+1) 38 #[.int .i64 p.1,.int .i64 p.2.1,.int .i64 p.2.2] /\Box (Ci w3 g (z*5+k*5) (PG.blank p)) (w.heap.size+1+1) 37 #[.int .i64 0,.int .i64 0,.slice none 0 0] /\
     (Ci w3 g (z*5+k*5) (PG.blank p)).ownsRow w.heap.size 66 5 (.slice (some ⟨g,0,none⟩) n n) n (Ag (spl l z (Dp rw_ a (k+1) p)))/\Below w.heap.size w (Ci w3 g (z*5+k*5) (PG.blank p)):=fun w3 h3=>by
    have m0:=Aa ho x0 (by decide)
    have m1:=Aa ho x1 (by decide)
    have m2:=Aa ho x2 (by decide)
    have o3:=ho.kept (BS h3 none) (by simp [Value.ownBlock])
    have S:=Eu o3 (k:=z+k) (o:=z*5+k*5) (by omega) (PG.blank p) (by omega) (by rw [hsl.out,hlen.out])
    have hs3:=h3.size
    refine⟨EC o3 (by omega) hck,(x0.below h3 x0.lt).grown S.2 (fun e=>m0 e.symm),(x1.below h3 x1.lt).grown S.2 (fun e=>m1 e.symm),(x2.below h3 x2.lt).grown S.2 (fun e=>m2 e.symm),?_,(hb.trans (h3.mono lb)).grown S.2 (by omega) (by rintro _ ⟨⟩;exact lg)⟩
    rw [<- NZ p hka (by rw [hrow.out];omega), <- Uf _ (by rw [hwl.out,hlen.out];omega) (by rw [hwl.out];omega)]
    exact S.1
   have FIN:=hide FIN
   clear ho hck x0 x1 x2
   go_wp2_with (
    go_at_call 97
    go_must (refine(BC.out p _).mono ?_)
    rintro e w3 ⟨rfl,b3⟩
    obtain⟨⟨v0,v1,v2,v3,v4,f0,f1,f2,f3,f4⟩,G2⟩:=FIN.out _ b3
    have G2:=hide G2
    clear b3 FIN)
   go_roundw
   case rel=>exact⟨k+1,by omega,.inr (by omega),by go_num,G2.out⟩
   case measure=>simp [intOf];omega
  ·have hwe:Dp rw_ a k p=Dp rw_ a t.toNat p:=by
    rcases hkt with h | h
    ·rw [Ep _ _ _ _ h,Ep _ _ _ _ (by omega)]
    ·rw [show t.toNat=k from by omega]
   rw [hwe] at ho
   have hwl:=Ee rw_ a t.toNat p
   rw [hrow.out] at hwl
   clear hwe
   obtain⟨lw,hlw⟩: ∃lw,Dp rw_ a t.toNat p=lw:=⟨_,rfl⟩
   rw [hlw] at ho hwl
   have hrw2:=Ug (l:=l) (m:=lw) (x:=z) (by rw [hwl,hlen.out];omega)
   rw [hwl] at hrw2
   have lI:=hide (Uh (l:=l) (m:=lw) (m':=Dn lw) (x:=z) (by rw [hwl,hlen.out];omega) (Ed lw))
   have hlw:=hide hlw
   have S2:=HS.out _ _ _ _ (Au.Bu ho)
   rw [add0,hrw2] at S2
   have hwl:=hide hwl
   have hsl:=hide (D5 (l:=l) (x:=z) (m:=lw) (by rw [hwl.out,hlen.out];omega))
   have n0:=Aa ho x0 (by decide)
   have n2:=Aa ho x2 (by decide)
   have x0:=hide x0
   have x2:=hide x2
   have ho:=hide ho
   clear x1 hrw2 BC y0 y1 y2 HS
   go_wp2_with (first
    | (go_at_call 114
       go_must (refine(Gz K c' _ _ _ _ S2 (Nat.le_refl _) (by omega)).mono ?_)
       rintro e w3 ⟨g3,rfl,o3,b3⟩
       have O3:=ho.out.kept (BS b3 none) (by simp [Value.ownBlock])
       have x0:=x0.out.below b3 x0.out.lt
       have x2:=x2.out.below b3 x2.out.lt
       have bb:=hb.trans (b3.mono hb.size)
       have s3:=Au.Bu o3
       clear b3 S2 o3 ho)
    | ((with_reducible refine Hu (o:=⟨some 36,_,_,_,_,_⟩) ?_)
       go_must (refine Ck (o:=⟨some 36,_,_,_,_,_⟩) rfl (.tmp 33) (.tmp 35) 35 35 rfl 66 i0 Tryz.underlying35 hi hz1 w.heap.size 66 g _ z n n _ _ (spl l z lw) rfl O3 rfl _ w3.heap.size K K K (Dn lw) rfl (Nat.min_self K) s3 (by omega) ?_)
       intro w4 O4 hg4
       rw [lI.out] at O4
       have x0:=x0.grown hg4 (fun e=>n0 e.symm)
       have x2:=x2.grown hg4 (fun e=>n2 e.symm)
       have bb:=bb.grown hg4 bb.size (by rintro _ ⟨⟩;exact lg)
       obtain⟨a0,a1,a2,a3,a4,a5⟩:=x0.three
       obtain⟨q0,q1,q2,q3,q4,q5⟩:=x2.three
       have O4:=hide O4
       clear n0 hg4 O3 s3))
   have X:=x2.Cu (.int .i64 R) (.int .i64 K) (.slice (some ⟨g,0,none⟩) n n)
   obtain⟨j0,j1,j2,_⟩:=X.three
   refine bodyPost_ret (v:=.agg #[.int .i64 R,.int .i64 K,.slice (some ⟨g,0,none⟩) n n]) (by simp [results,Tryz.results199,go_sem,j0,j1,j2]) rfl ⟨g,rfl,?_,?_⟩
   ·rw [hlw.out]
    exact ownsRow_setCell_other (ownsRow_setCell_other (ownsRow_setCell_other O4.out (a:=⟨w.heap.size+1+1,0,none⟩) n2 _) (a:=⟨w.heap.size+1+1,1,none⟩) n2 _) (a:=⟨w.heap.size+1+1,2,none⟩) n2 _
   ·exact BN bb (by omega) _ _ _
end Go.Proofs.YtoaabebgmdbjeaaGreatDoor
namespace Go.Proofs.YtoaabebgmdbjeaaGreatDoor
open Go.RowKit
end Go.Proofs.YtoaabebgmdbjeaaGreatDoor
namespace Go.Proofs.YtoaabebgmdbjeaaGreatDoor.PG
theorem Ew {l m:List Cl} {x i:Nat} (h:x+m.length<=l.length):(spl l x m)[i]? =if x<=i/\i<x+m.length then m[i-x]? else l[i]? :=by
 unfold spl
 have hx:(l.take x).length=x:=by rw [List.length_take];omega
 by_cases h1:i<x
 ·rw [if_neg (by omega),List.append_assoc,List.getElem?_append_left (by omega),List.getElem?_take_of_lt h1]
 ·by_cases h2:i<x+m.length
  ·rw [if_pos (by omega),List.append_assoc,List.getElem?_append_right (by omega),hx,List.getElem?_append_left (by omega)]
  ·rw [if_neg (by omega),List.getElem?_append_right (by rw [List.length_append];omega),List.length_append,hx,List.getElem?_drop]
   congr 1
   omega
theorem KH {g:Gr} {r:Nat} {m:List Cl} {h:Nat->Cl} (hr:r<g.rows) (hm:m.length=g.AB) (hh: ∀j,j<g.AB->m[j]? =some (h j)):spl (cells g) (r*g.AB) m=cells ⟨g.rows,g.AB,fun i j=>if i=r then h j else g.f i j⟩:=by
 have hle:r*g.AB+g.AB<=g.rows*g.AB:=by rw [<- Nat.succ_mul];exact Nat.mul_le_mul_right _ hr
 have hl:r*g.AB+m.length<=(cells g).length:=by rw [Aw,hm];exact hle
 refine Gp (g:=⟨g.rows,g.AB,fun i j=>if i=r then h j else g.f i j⟩) (by rw [D5 hl,Aw]) fun i j hi hj=>?_
 have hi:i<g.rows:=hi
 have hj:j<g.AB:=hj
 show(spl (cells g) (r*g.AB) m)[i*g.AB+j]? =some (if i=r then h j else g.f i j)
 rw [Ew hl,hm]
 by_cases e:i=r
 ·subst e
  rw [if_pos ⟨by omega,by omega⟩,if_pos rfl,Nat.add_sub_cancel_left]
  exact hh j hj
 ·have hne: ¬(r*g.AB<=i*g.AB+j/\i*g.AB+j<r*g.AB+g.AB):=by
   rintro ⟨h1,h2⟩
   rcases Nat.lt_or_gt_of_ne e with h | h
   ·have:=Nat.mul_le_mul_right g.AB h
    rw [Nat.succ_mul] at this
    omega
   ·have:=Nat.mul_le_mul_right g.AB h
    rw [Nat.succ_mul] at this
    omega
  rw [if_neg hne,if_neg e,Cw g hi hj]
theorem DT {a b:Gr} (h:Alike a b):cells a=cells b:=(Ke.1 h).2.2
theorem DY {n j:Nat} {f:Nat->Cl} (hj:j<n):((List.range n).map f)[j]? =some (f j):=by rw [List.getElem?_map,List.getElem?_range hj];rfl
theorem G5 {n j:Nat} {f:Nat->Cl} (hj:j<n):fnL ((List.range n).map f) j=f j:=JF (DY hj)
theorem IQ (n:Nat) (f:Nat->Cl):Dn ((List.range n).map f)=(List.range n).map (mend f n):=by
 unfold Dn
 rw [List.length_map,List.length_range]
 exact List.map_congr_left fun j hj=>LW (fun k hk=>G5 hk) (List.mem_range.1 hj)
theorem QC (n a b:Nat) (p:Pn) (f:Nat->Cl):Dp ((List.range n).map f) a b p=(List.range n).map (E5 f a b p):=by
 unfold Dp
 rw [List.length_map,List.length_range]
 refine List.map_congr_left fun j hj=>?_
 unfold E5
 rw [G5 (List.mem_range.1 hj)]
theorem Nc (R K:Nat) (p:Pn):List.replicate (R*K) (blank p)=cells (newG R K p):=by
 refine Gp (g:=newG R K p) (by rw [List.length_replicate];rfl) fun i j hi hj=>?_
 have h:i*(newG R K p).AB+j<R*K:=Bt (show i<R from hi) (show j<K from hj)
 rw [List.getElem?_replicate,if_pos h]
 rfl
theorem Li {g:Gr} {r:Nat} (hr:r<g.rows) (a b:Nat) (p:Pn):spl (cells g) (r*g.AB) (Dn (Dp (((cells g).drop (r*g.AB)).take g.AB) a b p))=cells (DW g r a b p):=by
 rw [Ii hr,QC,IQ,KH hr (by simp) (fun j hj=>DY hj)]
 unfold DW
 rw [if_pos hr]
def over (f:Nat->Cl) (c:Nat) (x:Int) (p:Pn) (w:Nat) (j:Nat):Cl:=if j=c then (x,if w=2 then 1 else 0,p) else if w=2/\j=c+1 then (0,2,p) else f j
theorem Yf {f:Nat->Cl} {n c:Nat} {x:Int} {p:Pn} {w:Nat} (hf:Bg f n) (hw0:1<=w) (hw2:w<=2) (hc:c+w<=n) {j:Nat} (hj:j<n):mend (over f c x p w) n j=putRow f c x p w j:=by
 have hov: ∀i,over f c x p w i=if i=c then (x,if w=2 then 1 else 0,p) else if w=2/\i=c+1 then (0,2,p) else f i:=fun _=>rfl
 have hat:putRow f c x p w j=if j=c then (x,if w=2 then 1 else 0,p) else if w=2/\j=c+1 then (0,2,p) else if j+1=c/\kd (f c)=2 then blank (pn (f j)) else if j=c+w/\kd (f (c+w-1))=1 then blank (pn (f j)) else f j:=rfl
 have kc:kd (over f c x p w c)=if w=2 then 1 else 0:=by rw [hov,if_pos rfl];rfl
 have kc1:w=2->kd (over f c x p w (c+1))=2:=fun h=>by rw [hov,if_neg (by omega),if_pos ⟨h,rfl⟩];rfl
 have kf: ∀i,i≠c-> ¬(w=2/\i=c+1)->over f c x p w i=f i:=fun i h1 h2=>by rw [hov,if_neg h1,if_neg h2]
 rw [hat]
 unfold mend
 by_cases h1:j=c
 ·subst h1
  rw [if_pos rfl,if_neg,hov,if_pos rfl]
  rw [kc]
  by_cases h2:w=2
  ·rw [if_pos h2,kc1 h2]
   omega
  ·rw [if_neg h2]
   omega
 rw [if_neg h1]
 by_cases h2:w=2/\j=c+1
 ·rw [if_pos h2]
  obtain⟨h2,rfl⟩:=h2
  rw [if_neg,hov,if_neg (by omega),if_pos ⟨h2,rfl⟩]
  rw [kc1 h2,Nat.add_sub_cancel,kc,if_pos h2]
  omega
 rw [if_neg h2,kf j h1 h2]
 by_cases h3:j+1=c/\kd (f c)=2
 ·rw [if_pos h3]
  have hl:=hf.Gn (j:=c) (by omega) h3.2
  have e:c-1=j:=by omega
  rw [e] at hl
  rw [if_pos]
  left
  refine⟨hl.2.2,?_⟩
  rw [h3.1,kc]
  split<;>omega
 rw [if_neg h3]
 by_cases h4:j=c+w/\kd (f (c+w-1))=1
 ·rw [if_pos h4]
  have hl:=hf.left (j:=c+w-1) (by omega) h4.2
  have e:c+w-1+1=j:=by omega
  rw [e] at hl
  rw [if_pos]
  right
  refine⟨hl.2.2.1,?_⟩
  rintro ⟨_,h5⟩
  by_cases hw:w=2
  ·rw [show j-1=c+1 by omega,kc1 hw] at h5
   omega
  ·rw [show j-1=c by omega,kc,if_neg hw] at h5
   omega
 rw [if_neg h4,if_neg]
 rintro (⟨a,b⟩ | ⟨a,b⟩)
 ·have hl:=hf.left hj a
  apply b
  refine⟨hl.2.1,?_⟩
  have n1:j+1≠c:=fun e=>h3 ⟨e,by rw [<- e];exact hl.2.2.1⟩
  have n2: ¬(w=2/\j+1=c+1):=fun e=>h1 (by omega)
  rw [kf _ n1 n2]
  exact hl.2.2.1
 ·have hl:=hf.Gn hj a
  apply b
  refine⟨hl.2.1,?_⟩
  have n1:j-1≠c:=fun e=>by
   by_cases hw:w=2
   ·exact h2 ⟨hw,by omega⟩
   ·exact h4 ⟨by omega,by rw [show c+w-1=j-1 by omega];exact hl.2.2⟩
  have n2: ¬(w=2/\j-1=c+1):=fun e=>h4 ⟨by omega,by rw [show c+w-1=j-1 by omega];exact hl.2.2⟩
  rw [kf _ n1 n2]
  exact hl.2.2
theorem Lj {x:Int} {p:Pn} {w:Nat} (hw:C.width x=(w:Int)) (h1:1<=w) (h2:w<=2):(putCells x p).length=w/\ ∀k,k<w->(putCells x p)[k]? =some (if k=0 then (x,if w=2 then 1 else 0,p) else (0,2,p)):=by
 unfold putCells
 rw [hw]
 obtain rfl | rfl:w=1\/w=2:=by omega
 ·refine⟨rfl,fun k hk=>?_⟩
  obtain rfl:k=0:=by omega
  rfl
 ·refine⟨rfl,fun k hk=>?_⟩
  obtain rfl | rfl:k=0\/k=1:=by omega
  ·rfl
  ·rfl
theorem Vg {g:Gr} (h:BL g) {r c:Nat} {x:Int} {p:Pn} (hr:r<g.rows) (h1:1<=C.width x) (hc:c+(C.width x).toNat<=g.AB):
  spl (spl (cells g) (r*g.AB+c) (putCells x p)) (r*g.AB) (Dn (((spl (cells g) (r*g.AB+c) (putCells x p)).drop (r*g.AB)).take g.AB))=cells (EL g r c x p):=by
 have hb:=FX x
 obtain⟨w,hw,hw1,hw2⟩: ∃w:Nat,C.width x=(w:Int)/\1<=w/\w<=2:=⟨(C.width x).toNat,by omega,by omega,by omega⟩
 have hwn:(C.width x).toNat=w:=by omega
 rw [hwn] at hc
 obtain⟨pl,pa⟩:=Lj (p:=p) hw hw1 hw2
 have hle:r*g.AB+g.AB<=g.rows*g.AB:=by rw [<- Nat.succ_mul];exact Nat.mul_le_mul_right _ hr
 have hl:r*g.AB+c+(putCells x p).length<=(cells g).length:=by rw [Aw,pl];omega
 have e1:spl (cells g) (r*g.AB+c) (putCells x p)=cells ⟨g.rows,g.AB,fun i j=>if i=r then over (g.f r) c x p w j else g.f i j⟩:=by
  refine Gp (g:=⟨g.rows,g.AB,fun i j=>if i=r then over (g.f r) c x p w j else g.f i j⟩) (by rw [D5 hl,Aw]) fun i j hi hj=>?_
  have hi:i<g.rows:=hi
  have hj:j<g.AB:=hj
  show(spl (cells g) (r*g.AB+c) (putCells x p))[i*g.AB+j]? =some (if i=r then over (g.f r) c x p w j else g.f i j)
  rw [Ew hl,pl]
  by_cases e:i=r
  ·subst e
   rw [if_pos rfl]
   unfold over
   by_cases h3:c<=j/\j<c+w
   ·rw [if_pos ⟨by omega,by omega⟩,show i*g.AB+j-(i*g.AB+c)=j-c by omega,pa _ (by omega)]
    by_cases h4:j=c
    ·rw [if_pos (by omega),if_pos h4]
    ·rw [if_neg (by omega),if_neg h4,if_pos (by omega)]
   ·rw [if_neg (by omega),if_neg (by omega),if_neg (by omega),Cw g hi hj]
  ·rw [if_neg e,if_neg,Cw g hi hj]
   rintro ⟨h3,h4⟩
   rcases Nat.lt_or_gt_of_ne e with h | h
   ·have:=Nat.mul_le_mul_right g.AB h
    rw [Nat.succ_mul] at this
    omega
   ·have:=Nat.mul_le_mul_right g.AB h
    rw [Nat.succ_mul] at this
    omega
 rw [e1]
 have e2:=Ii (g:=⟨g.rows,g.AB,fun i j=>if i=r then over (g.f r) c x p w j else g.f i j⟩) (r:=r) hr
 simp only [if_true] at e2
 rw [e2,IQ]
 have e3:=KH (g:=⟨g.rows,g.AB,fun i j=>if i=r then over (g.f r) c x p w j else g.f i j⟩) (r:=r) (m:=(List.range g.AB).map (mend (over (g.f r) c x p w) g.AB)) (h:=mend (over (g.f r) c x p w) g.AB) hr (by simp) (fun j hj=>DY hj)
 rw [e3]
 refine DT ⟨(Cm g r c x p).1.symm,(Cm g r c x p).2.symm,fun i j hi hj=>?_⟩
 have hi:i<g.rows:=hi
 have hj:j<g.AB:=hj
 unfold EL
 rw [if_pos ⟨hr,h1,by rw [hwn];exact hc⟩,hwn]
 show(if i=r then mend (over (g.f r) c x p w) g.AB j else if i=r then over (g.f r) c x p w j else g.f i j)=if i=r then putRow (g.f r) c x p w j else g.f i j
 by_cases e:i=r
 ·rw [if_pos e,if_pos e]
  exact Yf (h.2.2.2.2 r hr) hw1 hw2 hc hj
 ·rw [if_neg e,if_neg e,if_neg e]
def under (g:Gr) (i j:Nat):Cl:=if i<g.rows/\j<g.AB then g.f i j else blank plain
def pG (g:Gr) (R K k:Nat):Gr:=⟨R,K,fun i j=>if i<k then mend (under g i) K j else blank plain⟩
end Go.Proofs.YtoaabebgmdbjeaaGreatDoor.PG
namespace Go.Proofs.YtoaabebgmdbjeaaGreatDoor
open Go.RowKit
end Go.Proofs.YtoaabebgmdbjeaaGreatDoor
namespace Go.Proofs.YtoaabebgmdbjeaaGreatDoor
open Go.RowKit
theorem fq (l m:List Int):strOfNums l++strOfNums m=strOfNums (l++m):=by
 apply ByteArray.ext
 simp [strOfNums,ByteArray.data_append]
theorem fu {r:Int}:U.isR r=true<->0<=r/\r<=1114111/\(r<55296\/57343<r):=by unfold U.isR;exact decide_eq_true_iff
theorem QD {r:Int} (h:U.isR r=true):Utf8.encode r=strOfNums (U.en r):=by
 have h':=fu.1 h
 obtain⟨n,rfl⟩:=Int.eq_ofNat_of_zero_le (show 0<=r by omega)
 have hv:Utf8.valid (n:Int)=true:=by
  unfold Utf8.valid
  simp
  omega
 unfold Utf8.encode U.en U.tl
 simp only [hv,if_true,Int.toNat_natCast]
 by_cases h1:n<128
 ·rw [if_pos h1,if_pos (show(n:Int)<128 by omega)]
  simp [strOfNums]
 rw [if_neg h1,if_neg (show¬(n:Int)<128 by omega)]
 by_cases h2:n<2048
 ·rw [if_pos h2,if_pos (show(n:Int)<2048 by omega)]
  simp only [strOfNums,List.map_cons,List.map_nil]
  rw [show(192+(n:Int) / 64).toNat=192+n / 64 by omega,show(128+(n:Int)%64).toNat=128+n%64 by omega]
 rw [if_neg h2,if_neg (show¬(n:Int)<2048 by omega)]
 by_cases h3:n<65536
 ·rw [if_pos h3,if_pos (show(n:Int)<65536 by omega)]
  simp only [strOfNums,List.map_cons,List.map_nil]
  rw [show(224+(n:Int) / 4096).toNat=224+n / 4096 by omega,show(128+(n:Int) / 64%64).toNat=128+n / 64%64 by omega,show(128+(n:Int)%64).toNat=128+n%64 by omega]
 rw [if_neg h3,if_neg (show¬(n:Int)<65536 by omega)]
 simp only [strOfNums,List.map_cons,List.map_nil]
 rw [show(240+(n:Int) / 262144).toNat=240+n / 262144 by omega,show(128+(n:Int) / 4096%64).toNat=128+n / 4096%64 by omega,show(128+(n:Int) / 64%64).toNat=128+n / 64%64 by omega,show(128+(n:Int)%64).toNat=128+n%64 by omega]
theorem Ll: ∀(rs:List Int),(∀r∈rs,U.isR r=true)-> ∀l:List Int,rs.foldl (fun s n=>s++Utf8.encode n) (strOfNums l)=strOfNums (l++U.enc rs)
 | [],_,l=>by simp [U.enc]
 | r::rs,h,l=>by
  rw [List.foldl_cons,QD (h r (by simp)),fq,Ll rs (fun x hx=>h x (by simp [hx]))]
  have e:U.en1 r=U.en r:=by simp [U.en1,h r (by simp)]
  simp [U.enc,e]
theorem Vh {rs:List Int} (h: ∀r∈rs,U.isR r=true):runesBytes rs=strOfNums (U.enc rs):=by
 have:=Ll rs h []
 unfold runesBytes
 exact this
theorem Rt {w:World} {B n c:Nat} {A:Option Addr} {rs:List Int} (h:Seen w B A n (DV rs)) (hr: ∀r∈rs,U.isR r=true):(convert 84 9 (.slice A n c)).run Tryz.prog w=.ok (.string (strOfNums (U.enc rs))) w:=by
 have hl:rs.length=n:=by simpa [DV] using h.1
 rcases A with _ | ad
 ·have:rs= [] :=by
   rcases rs with _ | ⟨x,l⟩
   ·rfl
   ·obtain⟨ad,h0,_⟩:=h.2 0 _ rfl
    cases h0
  subst this
  rw [run_convert_runes_nil w _ _ _ _ _ Tryz.underlying84 Tryz.underlying21 Tryz.underlying9]
  rfl
 ·rw [run_convert_runes w _ _ _ ad n c rs (by omega) Tryz.underlying84 Tryz.underlying21 Tryz.underlying9 (fun j hj=>by
   obtain⟨ad',h1,_,h3⟩:=h.2 j (.int .i32 rs[j]) (by rw [DV,List.getElem?_map,List.getElem?_eq_getElem hj];rfl)
   injection h1 with h1
   subst h1
   rw [h3,List.getD_eq_getElem?_getD,List.getElem?_eq_getElem hj]
   rfl),List.take_of_length_le (by omega),Vh hr]
end Go.Proofs.YtoaabebgmdbjeaaGreatDoor
namespace Go.Proofs.YtoaabebgmdbjeaaGreatDoor
open Go.RowKit
def atv (c:PG.Cl) (b:Bool):Value:=.tuple #[cv c,.bool b]
theorem lJ (G:PG.Gr) (n cp B r c:Nat) (A:Option Addr) (w:World) (hl:Au w B A n (PG.cells G)) (hB:B<=w.heap.size) (hn:n=G.rows*G.AB) (hnc:n<=cp) (hcp:cp<=maxLen) (hr:r<G.rows) (hc:c<G.AB) (g2:G.rows<=40) (g4:G.AB<=60):
  Calls Tryz.prog 29 #[gv G.rows G.AB (.slice A n cp),.int .i64 r,.int .i64 c] w fun e w'=>e=.returned (atv (G.f r c) true)/\Below w.heap.size w w':=by
 have g3:1<=G.AB:=by omega
 have hnn:r*G.AB+c<n:=by rw [hn];exact PG.Bt hr hc
 obtain⟨c0,hc0'⟩: ∃c0,(PG.cells G)[0]? =some c0:=⟨_,List.getElem?_eq_getElem (by rw [PG.Aw];omega)⟩
 obtain⟨ad,rfl,hadB,_⟩:=hl.at_ hc0'
 clear hc0' hnn
 have RW: ∀(w':World),Below w.heap.size w w'->Calls Tryz.prog 66 #[gv G.rows G.AB (.slice (some ad) n cp),.int .i64 r] w' fun e w''=> ∃ad' c',e=.returned (.slice (some ad') G.AB c')/\G.AB<=c'/\Au w'' w.heap.size (some ad') G.AB ((List.range G.AB).map (G.f r))/\Below w'.heap.size w' w'':=fun w' hb=>by
  refine(GN G.rows G.AB r n cp ad w' hn hnc hcp hr g2 g3 g4).mono ?_
  rintro e w'' ⟨⟨c',rfl,h1,h2⟩,bb⟩
  refine⟨_,_,rfl,h1,?_,bb⟩
  have h:=(Gy ((hl.below (hb.mono hB)).below (bb.mono (Nat.le_trans hB hb.size))) hn hr g3).more hB
  rw [PG.Ii hr] at h
  exact h
 have RW:=hide RW
 have HC:=hide (PG.DY (f:=G.f r) hc)
 clear hl hn hnc hcp
 unfold atv cv
 unfold gv at*
 generalize hF:G.f r c=F at*
 clear hF
 go_enter Tryz.func29,Tryz.ntmps29
 go_wp2_with (
  go_at_call 66
  go_must (refine(RW.out _ (((Below.refl _ _).alloc (Nat.le_refl _) _).alloc (by simp) _)).mono ?_)
  rintro e w1 ⟨ad',c',rfl,hcc,hs,b1⟩
  obtain⟨ad2,e2,hb2,d0,d1,d2,d3,d4⟩:=hs.five HC.out
  injection e2 with e2
  subst e2
  have bb:=(((Below.refl w.heap.size w).alloc (Nat.le_refl _) (.cells #[.int .i64 G.rows,.int .i64 G.AB,.slice (some ad) n cp] 37)).alloc (by simp) (.cells #[.int .i32 0,.int .i64 0,.int .i64 0,.int .i64 0,.int .i64 0] 66)).trans (b1.mono (by simp;omega))
  have x1:=(Box.new (w.alloc (.cells #[.int .i64 G.rows,.int .i64 G.AB,.slice (some ad) n cp] 37)) 66 #[.int .i32 0,.int .i64 0,.int .i64 0,.int .i64 0,.int .i64 0]).below b1 (by simp)
  rw [World.size_alloc] at x1
  have q0:w1.cell? ⟨w.heap.size+1,0,none⟩=some (.int .i32 0):=x1.cell 0
  have q1:w1.cell? ⟨w.heap.size+1,1,none⟩=some (.int .i64 0):=x1.cell 1
  have q2:w1.cell? ⟨w.heap.size+1,2,none⟩=some (.int .i64 0):=x1.cell 2
  have q3:w1.cell? ⟨w.heap.size+1,3,none⟩=some (.int .i64 0):=x1.cell 3
  have q4:w1.cell? ⟨w.heap.size+1,4,none⟩=some (.int .i64 0):=x1.cell 4
  have f0:=x1.frozen 0
  have f1:=x1.frozen 1
  have f2:=x1.frozen 2
  have f3:=x1.frozen 3
  have f4:=x1.frozen 4
  have x1:=hide x1
  clear hs b1 RW)
 have X:=((((x1.out.set 0 (.int .i32 (PG.rn F))).set 1 (.int .i64 (PG.kd F))).set 2 (.int .i64 (PG.pn F).1)).set 3 (.int .i64 (PG.pn F).2.1)).set 4 (.int .i64 (PG.pn F).2.2)
 have j0:=X.cell 0
 have j1:=X.cell 1
 have j2:=X.cell 2
 have j3:=X.cell 3
 have j4:=X.cell 4
 refine bodyPost_ret (v:=.tuple #[.agg #[.int .i32 (PG.rn F),.int .i64 (PG.kd F),.int .i64 (PG.pn F).1,.int .i64 (PG.pn F).2.1,.int .i64 (PG.pn F).2.2],.bool true]) (by simp [results,Tryz.results29,go_sem,j0,j1,j2,j3,j4]) rfl ⟨rfl,?_⟩
 exact((((bb.setCell (by simp) _).setCell (by simp) _).setCell (by simp) _).setCell (by simp) _).setCell (by simp) _
theorem gB (R K n cp:Nat) (r:Int) (ad:Addr) (hn:n=R*K) (hnc:n<=cp) (hcp:cp<=maxLen) (h1:1<=R) (hR:R<=40) (h0:1<=K) (hK:K<=60):
  ∃k:Nat,((k=0/\(r<0\/(R:Int)<=r))\/(k=K/\0<=r/\r<R))/\ ∀w':World,Calls Tryz.prog 66 #[gv R K (.slice (some ad) n cp),.int .i64 r] w' fun e w''=>(∃U c',e=.returned (.slice U k c')/\k<=c'/\c'<=maxLen)/\Below w'.heap.size w' w'':=by
 by_cases hr:0<=r/\r<R
 ·obtain⟨q,rfl⟩:=Int.eq_ofNat_of_zero_le hr.1
  refine⟨K,.inr ⟨rfl,hr⟩,fun w'=>(GN R K q n cp ad w' hn hnc hcp (by omega) hR h0 hK).mono ?_⟩
  rintro e w'' ⟨⟨c',he,h1,h2⟩,hb⟩
  exact⟨⟨_,c',he,h1,h2⟩,hb⟩
 ·refine⟨0,.inl ⟨rfl,by omega⟩,fun w'=>(Ud R K n cp r _ w' hn h1 (by omega) hR h0 hK).mono ?_⟩
  rintro e w'' ⟨he,hb⟩
  exact⟨⟨none,0,he,Nat.le_refl _,Nat.zero_le _⟩,hb⟩
theorem gD (R K n cp:Nat) (r c:Int) (ad:Addr) (w:World) (hn:n=R*K) (hnc:n<=cp) (hcp:cp<=maxLen) (h1:1<=R) (hR:R<=40) (h0:1<=K) (hK:K<=60) (ho:r<0\/(R:Int)<=r\/c<0\/(K:Int)<=c):
  Calls Tryz.prog 29 #[gv R K (.slice (some ad) n cp),.int .i64 r,.int .i64 c] w fun e w'=>e=.returned (atv PG.none false)/\Below w.heap.size w w':=by
 obtain⟨k,hk,RW⟩:=gB R K n cp r ad hn hnc hcp h1 hR h0 hK
 have RW:=hide RW
 have hcs:c<0\/(0<=c/\(k:Int)<=c):=by omega
 have hk60:k<=60:=by omega
 clear hn hnc hcp hk ho
 show Calls Tryz.prog 29 #[gv R K (.slice (some ad) n cp),.int .i64 r,.int .i64 c] w fun e w'=>e=.returned (.tuple #[.agg #[.int .i32 0,.int .i64 0,.int .i64 0,.int .i64 0,.int .i64 0],.bool false])/\Below w.heap.size w w'
 unfold gv at*
 have arm: ∀w1:World,Below ((w.alloc (.cells #[.int .i64 R,.int .i64 K,.slice (some ad) n cp] 37)).alloc (.cells #[.int .i32 0,.int .i64 0,.int .i64 0,.int .i64 0,.int .i64 0] 66)).heap.size ((w.alloc (.cells #[.int .i64 R,.int .i64 K,.slice (some ad) n cp] 37)).alloc (.cells #[.int .i32 0,.int .i64 0,.int .i64 0,.int .i64 0,.int .i64 0] 66)) w1->
   Below w.heap.size w w1/\Box w1 (w.heap.size+1) 66 #[.int .i32 0,.int .i64 0,.int .i64 0,.int .i64 0,.int .i64 0] :=fun w1 b1=>by
  refine⟨(((Below.refl w.heap.size w).alloc (Nat.le_refl _) (.cells #[.int .i64 R,.int .i64 K,.slice (some ad) n cp] 37)).alloc (by simp) (.cells #[.int .i32 0,.int .i64 0,.int .i64 0,.int .i64 0,.int .i64 0] 66)).trans (b1.mono (by simp;omega)),?_⟩
  have x1:=(Box.new (w.alloc (.cells #[.int .i64 R,.int .i64 K,.slice (some ad) n cp] 37)) 66 #[.int .i32 0,.int .i64 0,.int .i64 0,.int .i64 0,.int .i64 0]).below b1 (by simp)
  rw [World.size_alloc] at x1
  exact x1
 have arm:=hide arm
 rcases hcs with hc | ⟨hc,hc'⟩
 all_goals
  go_enter Tryz.func29,Tryz.ntmps29
  go_wp2_with (
   go_at_call 66
   go_must (refine(RW.out _).mono ?_)
   rintro e w1 ⟨⟨U,c',rfl,hc1,hc2⟩,b1⟩
   obtain⟨bb,x1⟩:=arm.out _ b1
   have q0:w1.cell? ⟨w.heap.size+1,0,none⟩=some (.int .i32 0):=x1.cell 0
   have q1:w1.cell? ⟨w.heap.size+1,1,none⟩=some (.int .i64 0):=x1.cell 1
   have q2:w1.cell? ⟨w.heap.size+1,2,none⟩=some (.int .i64 0):=x1.cell 2
   have q3:w1.cell? ⟨w.heap.size+1,3,none⟩=some (.int .i64 0):=x1.cell 3
   have q4:w1.cell? ⟨w.heap.size+1,4,none⟩=some (.int .i64 0):=x1.cell 4
   have f0:=x1.frozen 0
   have f1:=x1.frozen 1
   have f2:=x1.frozen 2
   have f3:=x1.frozen 3
   have f4:=x1.frozen 4
   have x1:=hide x1
   clear b1 RW arm)
  have X:=((((x1.out.set 0 (.int .i32 0)).set 1 (.int .i64 0)).set 2 (.int .i64 0)).set 3 (.int .i64 0)).set 4 (.int .i64 0)
  have j0:=X.cell 0
  have j1:=X.cell 1
  have j2:=X.cell 2
  have j3:=X.cell 3
  have j4:=X.cell 4
  refine bodyPost_ret (v:=.tuple #[.agg #[.int .i32 0,.int .i64 0,.int .i64 0,.int .i64 0,.int .i64 0],.bool false]) (by simp [results,Tryz.results29,go_sem,j0,j1,j2,j3,j4]) rfl ⟨rfl,?_⟩
  exact((((bb.setCell (by simp) _).setCell (by simp) _).setCell (by simp) _).setCell (by simp) _).setCell (by simp) _
end Go.Proofs.YtoaabebgmdbjeaaGreatDoor
namespace Go.Proofs.YtoaabebgmdbjeaaGreatDoor
open Go.RowKit
theorem Ru (f:Nat->PG.Cl) (k:Nat):(PG.kd (f k)=2->PG.runes f (k+1)=PG.runes f k)/\(PG.kd (f k)≠2->PG.runes f (k+1)=PG.runes f k++ [PG.rn (f k)]):=by
 rw [PG.RZ]
 exact⟨fun h=>by rw [if_neg (by omega),List.append_nil],fun h=>by rw [if_pos h]⟩
theorem gF (R K n cp m B:Nat) (A:Option Addr) (r:Int) (f:Nat->PG.Cl) (w:World)
  (RC: ∀w',Below w.heap.size w w'->Calls Tryz.prog 66 #[gv R K (.slice A n cp),.int .i64 r] w' fun e w''=> ∃U c',e=.returned (.slice U m c')/\m<=c'/\Au w'' w.heap.size U m ((List.range m).map f)/\Below w'.heap.size w' w'')
  (hm:m<=60) (hr: ∀x∈PG.runes f m,U.isR x=true):
  Calls Tryz.prog 50 #[gv R K (.slice A n cp),.int .i64 r] w fun e w'=>e=.returned (.string (strOfNums (PG.text f m)))/\Below w.heap.size w w':=by
 obtain⟨i0,hi,hz0,hz1,hz2⟩:=info_parts H6
 have RC:=hide RC
 have hr:=hide hr
 unfold gv at*
 go_enter Tryz.func50,Tryz.ntmps50
 go_wp2_with (
  go_at_call 66
  go_must (refine(RC.out _ ((Below.refl _ _).alloc (Nat.le_refl _) _)).mono ?_)
  rintro e w1 ⟨U,c',rfl,hc',hs,b1⟩
  have bb:=((Below.refl w.heap.size w).alloc (Nat.le_refl _) (.cells #[.int .i64 R,.int .i64 K,.slice A n cp] 37)).trans (b1.mono (by simp))
  have hs1:=hide hs
  clear b1 RC hs)
 go_loopw [5,12] (fun v i wr=> ∃k q:Nat,k<=m/\i=.int .i64 k/\q<=k/\wr.ownsRow w.heap.size 21 1 v q (DV (PG.runes f k))/\Below w.heap.size w wr/\Au wr w.heap.size U m ((List.range m).map f))
  (fun _ i _=>m-(intOf i).toNat)
 case atStart=>exact⟨0,0,Nat.zero_le _,rfl,Nat.le_refl _,World.ownsRow_nil _ _ _ _,bb,hs1.out⟩
 case round=>
  clear hs1 bb
  obtain⟨k,q,hk,rfl,hq,ho,hb,hs⟩:=hrel
  have hsz:=hb.size
  by_cases hlt:k<m
  ·have hck:=PG.DY (f:=f) hlt
   obtain⟨ad,rfl,hadB,d0,d1,d2,d3,d4⟩:=hs.five hck
   obtain⟨s1,s2⟩:=Ru f k
   have hs:=hide hs
   clear hck
   generalize f k=F at*
   obtain⟨Av,cv,rfl,_,_,hblk⟩:=C9 ho
   by_cases h2:PG.kd F=2
   ·have s1:=hide (s1 h2)
    have HO:=hide ho
    have HB:=hide hb
    rw [h2] at d1
    clear s2 h2 ho hb hblk
    go_wp2_with fail
    go_roundw
    case rel=>exact⟨k+1,q,by omega,by go_num,by omega,by rw [s1.out];exact HO.out.alloc _,HB.out.alloc hsz _,hs.out.below ((Below.refl _ _).alloc hsz _)⟩
    case measure=>simp [intOf];omega
   ·have s2:=hide (s2 h2)
    have hq2:(PG.kd F !=2)=true:=by simpa using h2
    have HO:=hide (ho.alloc (.cells #[.int .i32 (PG.rn F),.int .i64 (PG.kd F),.int .i64 (PG.pn F).1,.int .i64 (PG.pn F).2.1,.int .i64 (PG.pn F).2.2] 66))
    have HB:=hide (hb.alloc hsz (.cells #[.int .i32 (PG.rn F),.int .i64 (PG.kd F),.int .i64 (PG.pn F).1,.int .i64 (PG.pn F).2.1,.int .i64 (PG.pn F).2.2] 66))
    have hs:=hide (hs.out.below ((Below.refl w.heap.size wr).alloc hsz (.cells #[.int .i32 (PG.rn F),.int .i64 (PG.kd F),.int .i64 (PG.pn F).1,.int .i64 (PG.pn F).2.1,.int .i64 (PG.pn F).2.2] 66)))
    have hblk:=hide hblk
    clear s1 h2 ho hb
    go_wp2_with (
     at_builtin
     go_must (refine BM rfl (.tmp 19) (.tmp 22) 84 rfl w.heap.size 21 i0 _ 4 Tryz.underlying84 hi hz0 hz1 hz2 rfl (.slice Av q cv) q (DV (PG.runes f k)) rfl HO.out (.int .i32 (PG.rn F)) _ _ rfl (by simp) rfl (by omega) (by omega) (by simp;omega) ?_)
     intro v9 w9 o9 hg9 hm9
     have hn9: ∀g,(Value.slice Av q cv).ownBlock=some g->w.heap.size<=g:=fun g hg=>(hblk.out g hg).1
     have B9:=hide (HB.out.grown hg9 HB.out.size hn9)
     have S9:=hide (Seen.grown hs.out hg9 HB.out.size hn9)
     have o9:=hide o9
     clear hg9 hm9 hn9 HO HB hs hblk)
    go_roundw
    case rel=>exact⟨k+1,q+1,by omega,by go_num,by omega,by rw [s2.out,Xy];exact o9.out,B9.out,S9.out⟩
    case measure=>simp [intOf];omega
  ·obtain rfl:k=m:=by omega
   obtain⟨Av,cv,rfl,_⟩:=C9 ho
   have hcv:=Rt (c:=cv) (Seen.Bu ho) hr.out
   go_wp2_with fail
   go_ret
   exact⟨rfl,hb⟩
theorem Yg (G:PG.Gr) (n cp B r:Nat) (A:Option Addr) (w:World) (hG:PG.BL G) (hl:Au w B A n (PG.cells G)) (hB:B<=w.heap.size) (hn:n=G.rows*G.AB) (hnc:n<=cp) (hcp:cp<=maxLen) (hr:r<G.rows):
  Calls Tryz.prog 50 #[gv G.rows G.AB (.slice A n cp),.int .i64 r] w fun e w'=>e=.returned (.string (strOfNums (PG.text (G.f r) G.AB)))/\Below w.heap.size w w':=by
 obtain⟨g1,g2,g3,g4,g5⟩:=hG
 have hnn:r*G.AB+0<n:=by rw [hn];exact PG.Bt hr g3
 obtain⟨c0,hc0'⟩: ∃c0,(PG.cells G)[0]? =some c0:=⟨_,List.getElem?_eq_getElem (by rw [PG.Aw];omega)⟩
 obtain⟨ad,rfl,hadB,_⟩:=hl.at_ hc0'
 refine gF G.rows G.AB n cp G.AB B (some ad) r (G.f r) w (fun w' hb=>?_) g4 (PG.VF (g5 r hr))
 refine(GN G.rows G.AB r n cp ad w' hn hnc hcp hr g2 g3 g4).mono ?_
 rintro e w'' ⟨⟨c',rfl,h1,h2⟩,bb⟩
 refine⟨_,_,rfl,h1,?_,bb⟩
 have h:=(Gy ((hl.below (hb.mono hB)).below (bb.mono (Nat.le_trans hB hb.size))) hn hr g3).more hB
 rw [PG.Ii hr] at h
 exact h
end Go.Proofs.YtoaabebgmdbjeaaGreatDoor
namespace Go.Proofs.YtoaabebgmdbjeaaGreatDoor
open Go.RowKit
theorem M8 (f:Nat->PG.Cl) (n c B k:Nat) (A:Option Addr) (w:World) (hf:PG.Bg f n) (hl:Au w B A n ((List.range n).map f)) (hB:B<=w.heap.size) (hn:n<=60) (hk:k<n) (hx: ∀j,j<n-> -2147483648<=PG.rn (f j)/\PG.rn (f j)<=2147483647) (hs:D6 w):
  Calls Tryz.prog 129 #[.slice A n c,.int .i64 k] w fun e w'=>e=.returned (.bool true)/\Below w.heap.size w w':=by
 have hck:=PG.DY (f:=f) hk
 obtain⟨ad,rfl,hadB,d0,d1,d2,d3,d4⟩:=hl.five hck
 have hfk:=(hf k hk).2
 have WD:=fun w' (hs':D6 w') v (h:C.width (PG.rn (f k))=v)=>(show Calls Tryz.prog 63 #[.int .i32 (PG.rn (f k))] w' fun e w''=>e=.returned (.int .i64 v)/\Below w'.heap.size w' w'' by subst h;exact KF _ w' (hx k hk).1 (hx k hk).2 hs')
 rcases hfk with ⟨h1,h2⟩ | ⟨h1,h2,h3,h4,h5⟩ | ⟨h1,h2,h3,h4⟩
 ·have W:=hide (fun w' hs'=>WD w' hs' 1 h2)
  rw [h1] at d1
  generalize f k=F at*
  clear WD hl hck h1 h2 hf hx
  go_enter Tryz.func129,Tryz.ntmps129
  go_wp2_with (go_at_call 63;go_must (refine(W.out _ hs).mono ?_);rintro e w1 ⟨rfl,b1⟩)
  go_ret
  exact⟨rfl,b1⟩
 ·have hcn:=PG.DY (f:=f) h3
  have W:=hide (fun w' hs'=>WD w' hs' 2 h2)
  have L:=hide hl
  have hpq:((PG.pn (f (k+1))).1==(PG.pn (f k)).1&&(PG.pn (f (k+1))).2.1==(PG.pn (f k)).2.1&&(PG.pn (f (k+1))).2.2==(PG.pn (f k)).2.2)=true:=by rw [h5];simp
  have epq: ∀w',(binOp .eql 38 (.agg #[.int .i64 (PG.pn (f (k+1))).1,.int .i64 (PG.pn (f (k+1))).2.1,.int .i64 (PG.pn (f (k+1))).2.2]) (.agg #[.int .i64 (PG.pn (f k)).1,.int .i64 (PG.pn (f k)).2.1,.int .i64 (PG.pn (f k)).2.2])).run Tryz.prog w'=.ok (.bool true) w':=fun w'=>by rw [Ue,hpq]
  have jy:=fun w' (h:BQ w w')=>(hl.below (Below.mono h hB)).five hck
  have kC:=fun w' (h:BQ w w')=>(hl.below (Below.mono h hB)).five hcn
  have F0: ∀w',BQ w w'->w'.cell? (ad.add (k*5))=some (.int .i32 (PG.rn (f k)))/\w'.cell? ⟨(ad.add (k*5)).block,(ad.add (k*5)).off+2,none⟩=some (.int .i64 (PG.pn (f k)).1)/\w'.cell? ⟨(ad.add (k*5)).block,(ad.add (k*5)).off+3,none⟩=some (.int .i64 (PG.pn (f k)).2.1)/\w'.cell? ⟨(ad.add (k*5)).block,(ad.add (k*5)).off+4,none⟩=some (.int .i64 (PG.pn (f k)).2.2):=fun w' h=>by
   obtain⟨ad',e',_,q0,q1,q2,q3,q4⟩:=jy w' h
   injection e' with e'
   subst e'
   exact⟨q0,q2,q3,q4⟩
  have F1: ∀w',BQ w w'->w'.cell? ⟨(ad.add ((k+1)*5)).block,(ad.add ((k+1)*5)).off+2,none⟩=some (.int .i64 (PG.pn (f (k+1))).1)/\w'.cell? ⟨(ad.add ((k+1)*5)).block,(ad.add ((k+1)*5)).off+3,none⟩=some (.int .i64 (PG.pn (f (k+1))).2.1)/\w'.cell? ⟨(ad.add ((k+1)*5)).block,(ad.add ((k+1)*5)).off+4,none⟩=some (.int .i64 (PG.pn (f (k+1))).2.2):=fun w' h=>by
   obtain⟨ad',e',_,q0,q1,q2,q3,q4⟩:=kC w' h
   injection e' with e'
   subst e'
   exact⟨q2,q3,q4⟩
  have R0:=fun w' h=>(F0 w' h).1
  have R2:=fun w' h=>(F0 w' h).2.1
  have R3:=fun w' h=>(F0 w' h).2.2.1
  have R4:=fun w' h=>(F0 w' h).2.2.2
  have N2:=fun w' h=>(F1 w' h).1
  have N3:=fun w' h=>(F1 w' h).2.1
  have N4:=fun w' h=>(F1 w' h).2.2
  rw [h1] at d1
  have h0:BQ w w.drew:=(BQ.refl _).drew
  have hP:=Lib.hid h0
  generalize f k=F at*
  generalize f (k+1)=F' at*
  clear WD hl hck hcn h1 h2 h4 h5 hf hx jy kC F0 F1 hpq d0 d2 d3 d4
  have wr1:IntKind.i64.wrap ((k:Int)+1)=(k:Int)+1:=IntWalk.i64_in _ (by omega)
  have k0:(0:Int)<=(k:Int)+1:=by omega
  have k1:((k:Int)+1).toNat=k+1:=by omega
  have k2:(k:Int)+1<(n:Int):=by omega
  go_enter Tryz.func129,Tryz.ntmps129
  go_wp2_with fail
  go_region_held_law (fun w'=>BQ w w')
   (first | with_reducible exact h0 | with_reducible exact hP.out)
   (first | (go_at_call 63;refine(W.out _ (hs.keep (show BQ w _ from by assumption))).mono ?_;rintro e wP ⟨rfl,bb⟩;have hP:=Lib.hid (BQ.call (by assumption) bb)))
  go_wp2_with fail
  go_ret
  exact⟨rfl,hP.out⟩
 ·rw [h1] at d1
  rw [h2] at d0
  generalize f k=F at*
  clear WD hl hck h1 h2 hf hx
  go_enter Tryz.func129,Tryz.ntmps129
  go_wp2_with fail
  go_ret
  exact⟨rfl,Below.refl _ _⟩
theorem QE (f b g:Int) (w:World) (h:C.right f b g=true):Calls Tryz.prog 94 #[.agg #[.int .i64 f,.int .i64 b,.int .i64 g]] w fun e w'=>e=.returned (.bool true)/\Below w.heap.size w w':=by
 refine(YP f b g true h w).mono ?_
 rintro e w' ⟨rfl,rfl⟩
 exact⟨rfl,(Below.refl _ _).alloc (Nat.le_refl _) _⟩
theorem QF {f:Nat->PG.Cl} {n k:Nat} (hf:PG.Bg f n) (hk:k<n):Dy ((List.range n).map f) k=false:=by
 unfold Dy
 rw [decide_eq_false_iff_not,PG.G5 hk,List.length_map,List.length_range]
 rintro (⟨a,b⟩ | ⟨a,b⟩)
 ·have h:=hf.left hk a
  exact b ⟨h.2.1,by rw [PG.G5 h.2.1];exact h.2.2.1⟩
 ·have h:=hf.Gn hk a
  exact b ⟨h.2.1,by rw [PG.G5 (by omega)];exact h.2.2⟩
theorem Od (f:Nat->PG.Cl) (n c B:Nat) (A:Option Addr) (w:World) (hf:PG.Bg f n) (hl:Au w B A n ((List.range n).map f)) (hB:B<=w.heap.size) (hn:n<=60) (hx: ∀j,j<n-> -2147483648<=PG.rn (f j)/\PG.rn (f j)<=2147483647) (hs:D6 w):
  Calls Tryz.prog 93 #[.slice A n c] w fun e w'=>e=.returned (.bool true)/\Below w.heap.size w w':=by
 have AL:=hide (fun w' k (hb:Below w.heap.size w w') (hk:k<n)=>QA _ n c B k false (QF hf hk) A w' (hl.below (hb.mono hB)) (by omega) hk)
 have RK:=hide (fun w' k (hb:Below w.heap.size w w') (hk:k<n)=>M8 f n c B k A w' hf (hl.below (hb.mono hB)) (Nat.le_trans hB hb.size) hn hk hx (hs.keep hb))
 have RP:=hide (fun w' k (hk:k<n)=>QE (PG.pn (f k)).1 (PG.pn (f k)).2.1 (PG.pn (f k)).2.2 w' (hf k hk).1)
 have HL:=hide hl
 clear hl hf hx hs
 go_enter Tryz.func93,Tryz.ntmps93
 go_wp2_with fail
 go_loopw [6] (fun i wr=> ∃k:Nat,k<=n/\i=.int .i64 k/\Below w.heap.size w wr) (fun i _=>n-(intOf i).toNat)
 case atStart=>exact⟨0,Nat.zero_le _,rfl,Below.refl _ _⟩
 case round=>
  obtain⟨k,hk,rfl,hb⟩:=hrel
  by_cases hlt:k<n
  ·have hck:=PG.DY (f:=f) hlt
   have HB:=hide hb
   have hsz:=hb.size
   have RPk:=hide (fun w'=>RP.out w' k hlt)
   have five:=hide (fun w' (h:Below w.heap.size w w')=>(HL.out.below (h.mono hB)).five hck)
   have HF:=hide hck
   clear hck RP hb
   generalize f k=F at*
   go_wp2_with (first
    | (go_at_call 128
       go_must (refine(AL.out _ k HB.out hlt).mono ?_)
       rintro e w2 ⟨rfl,b2⟩
       have HB:=hide (HB.out.trans (b2.mono hsz))
       have hsz:=HB.out.size
       obtain⟨ad,rfl,hadB,d0,d1,d2,d3,d4⟩:=five.out _ HB.out
       clear b2 AL)
    | (go_at_call 94
       go_must (refine(RPk.out _).mono ?_)
       rintro e w3 ⟨rfl,b3⟩
       have HB:=hide (HB.out.trans (b3.mono hsz))
       have hsz:=HB.out.size
       clear b3 RPk d0 d1 d2 d3 d4)
    | (go_at_call 129
       go_must (refine(RK.out _ k HB.out hlt).mono ?_)
       rintro e w4 ⟨rfl,b4⟩
       have HB:=hide (HB.out.trans (b4.mono hsz))
       clear b4 RK))
   go_roundw
   case rel=>exact⟨k+1,by omega,by go_num,HB.out⟩
   case measure=>simp [intOf];omega
  ·obtain rfl:k=n:=by omega
   go_wp2_with fail
   go_ret
   exact⟨rfl,hb⟩
theorem Rv (G:PG.Gr) (n cp B:Nat) (A:Option Addr) (w:World) (hG:PG.BL G) (hl:Au w B A n (PG.cells G)) (hB:B<=w.heap.size) (hn:n=G.rows*G.AB) (hnc:n<=cp) (hcp:cp<=maxLen) (hx: ∀r j,r<G.rows->j<G.AB-> -2147483648<=PG.rn (G.f r j)/\PG.rn (G.f r j)<=2147483647) (hs:D6 w):
  Calls Tryz.prog 45 #[gv G.rows G.AB (.slice A n cp)] w fun e w'=>e=.returned (.bool true)/\Below w.heap.size w w':=by
 obtain⟨g1,g2,g3,g4,g5⟩:=hG
 have hnn:0*G.AB+0<n:=by rw [hn];exact PG.Bt g1 g3
 obtain⟨c0,hc0'⟩: ∃c0,(PG.cells G)[0]? =some c0:=⟨_,List.getElem?_eq_getElem (by rw [PG.Aw];omega)⟩
 obtain⟨ad,rfl,hadB,_⟩:=hl.at_ hc0'
 clear hc0'
 have SZ:=hide (fun w'=>KG G.rows G.AB n cp (some ad) w' hn g1 g2 g3 g4)
 have RW: ∀(w':World) (k:Nat),Below w.heap.size w w'->k<G.rows->Calls Tryz.prog 66 #[gv G.rows G.AB (.slice (some ad) n cp),.int .i64 k] w' fun e w''=> ∃ad' c',e=.returned (.slice (some ad') G.AB c')/\Au w'' w.heap.size (some ad') G.AB ((List.range G.AB).map (G.f k))/\Below w'.heap.size w' w'':=fun w' k hb hk=>by
  refine(GN G.rows G.AB k n cp ad w' hn hnc hcp hk g2 g3 g4).mono ?_
  rintro e w'' ⟨⟨c',rfl,h1,h2⟩,bb⟩
  refine⟨_,_,rfl,?_,bb⟩
  have h:=(Gy ((hl.below (hb.mono hB)).below (bb.mono (Nat.le_trans hB hb.size))) hn hk g3).more hB
  rw [PG.Ii hk] at h
  exact h
 have RW:=hide RW
 have RR:=hide (fun w' k c' (ad':Addr) (hb:Below w.heap.size w w') (hk:k<G.rows) (h:Au w' w.heap.size (some ad') G.AB ((List.range G.AB).map (G.f k)))=>Od (G.f k) G.AB c' w.heap.size (some ad') w' (g5 k hk) h hb.size g4 (fun j hj=>hx k j hk hj) (hs.keep hb))
 clear hl hn hnc hcp hx hs g5 hnn
 unfold gv at*
 go_enter Tryz.func45,Tryz.ntmps45
 go_wp2_with (
  go_at_call 92
  go_must (refine(SZ.out _).mono ?_)
  rintro e w1 ⟨rfl,b1⟩
  have x0:=(Box.new w 37 #[.int .i64 G.rows,.int .i64 G.AB,.slice (some ad) n cp]).below b1 (by simp)
  have bb:=((Below.refl w.heap.size w).alloc (Nat.le_refl _) (.cells #[.int .i64 G.rows,.int .i64 G.AB,.slice (some ad) n cp] 37)).trans (b1.mono (by simp))
  obtain⟨y0,y1,y2,_⟩:=x0.three
  clear b1 SZ)
 go_loopw [9] (fun i wr=> ∃k:Nat,k<=G.rows/\i=.int .i64 k/\Box wr w.heap.size 37 #[.int .i64 G.rows,.int .i64 G.AB,.slice (some ad) n cp] /\Below w.heap.size w wr) (fun i _=>G.rows-(intOf i).toNat)
 case atStart=>exact⟨0,Nat.zero_le _,rfl,x0,bb⟩
 case round=>
  clear x0 bb y0 y1 y2
  obtain⟨k,hk,rfl,x0,hb⟩:=hrel
  by_cases hlt:k<G.rows
  ·obtain⟨y0,y1,y2,_⟩:=x0.three
   have HX:=hide x0
   have HB:=hide hb
   have hsz:=hb.size
   clear hb x0
   go_wp2_with (first
    | (go_at_call 66
       go_must (refine(RW.out _ k HB.out hlt).mono ?_)
       rintro e w2 ⟨ad',c',rfl,hs2,b2⟩
       have HB:=hide (HB.out.trans (b2.mono hsz))
       have hsz:=HB.out.size
       have HX:=hide (HX.out.below b2 HX.out.lt)
       have hs2:=hide hs2
       clear b2 RW y0 y1 y2)
    | (go_at_call 93
       go_must (refine(RR.out _ k _ _ HB.out hlt hs2.out).mono ?_)
       rintro e w3 ⟨rfl,b3⟩
       have HB:=hide (HB.out.trans (b3.mono hsz))
       have HX:=hide (HX.out.below b3 HX.out.lt)
       clear b3 RR hs2))
   go_roundw
   case rel=>exact⟨k+1,by omega,by go_num,HX.out,HB.out⟩
   case measure=>simp [intOf];omega
  ·obtain rfl:k=G.rows:=by omega
   go_wp2_with fail
   go_ret
   exact⟨rfl,hb⟩
end Go.Proofs.YtoaabebgmdbjeaaGreatDoor
