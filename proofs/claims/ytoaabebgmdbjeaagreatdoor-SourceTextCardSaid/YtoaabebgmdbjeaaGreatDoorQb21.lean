/- grid.Wipe of a row that is there, up to a column far beyond its end. -/
import Derived.Test.YtoaabebgmdbjeaaGreatDoorQb20
set_option maxRecDepth 100000
set_option maxHeartbeats 16000000
set_option linter.unusedVariables false
namespace Go.Proofs.YtoaabebgmdbjeaaGreatDoor
open Go.RowKit
theorem YB (R K r n cp B a:Nat) (fr tw t:Int) (p:PG.Pn) (A:Option Addr) (l:List PG.Cl) (w:World) (hl:BL w B A n l) (hB:B<=w.heap.size) (hn:n=R*K) (hr:r<R) (hR:R<=40) (h0:1<=K) (hK:K<=60)
  (hf: -1000<=fr/\fr<=1000) (ht: -1000<=tw/\tw<=1000000) (ha:(if fr<0 then (0:Int) else fr)=(a:Int)) (hT:(if (K:Int)<tw then (K:Int) else tw)=t):
  Calls Tryz.prog 199 #[gv R K (.slice A n cp),.int .i64 r,.int .i64 fr,.int .i64 tw,pv p] w (Gm w R K n (spl l (r*K) (Dm (Dn ((l.drop (r*K)).take K) a t.toNat p)))):=by
 have hle:r*K+K<=R*K:=by rw [<- Nat.succ_mul];exact Nat.mul_le_mul_right K hr
 have hRK:R*K<=2400:=Nat.mul_le_mul hR hK
 have hlen:=hl.len
 obtain⟨i0,hi,hz0,hz1,hz2⟩:=info_parts Cx
 have CL:=hide (fun w' (hb:Below w.heap.size w w')=>JU R K n cp B A l w' (hl.below (hb.mono hB)) (Nat.le_trans hB hb.size) (by omega))
 have RW:=hide (fun w' g=>IE R K r n n ⟨g,0,none⟩ w' hn (Nat.le_refl _) (by simp only [maxLen];omega) hr hR h0 hK)
 have BC: ∀(p:PG.Pn) (w':World),Calls Tryz.prog 97 #[.agg #[.int .i64 p.1,.int .i64 p.2.1,.int .i64 p.2.2]] w' fun e w''=>e=.returned (.agg #[.int .i32 32,.int .i64 0,.int .i64 p.1,.int .i64 p.2.1,.int .i64 p.2.2])/\Below w'.heap.size w' w'':=fun p w'=>Fu _ _ _ w'
 have BC:=hide BC
 have HS:=hide (fun (w':World) (B' g:Nat) (l':List PG.Cl) (h:BL w' B' (some ⟨g,0,none⟩) n l')=>I5 (K:=K) (r:=r) h hn hr h0)
 have ht3:t<=K/\ -1000<=t:=by rw [<- hT];split<;>omega
 have ha3:a<=1000:=by split at ha<;>omega
 unfold gv pv at*
 unfold Gm at*
 unfold gv at*
 have hnx:r*K+K<=n:=by omega
 have hn2:n<=2400:=by omega
 clear hn hRK hle
 generalize r*K=z at*
 have hrow:((l.drop z).take K).length=K:=by rw [List.length_take,List.length_drop];omega
 have hsame:=Qp (l:=l) (x:=z) (K:=K) (by omega)
 obtain⟨rw_,hrw⟩: ∃q,(l.drop z).take K=q:=⟨_,rfl⟩
 rw [hrw] at hrow hsame⊢
 have hrw:=hide hrw
 have hsame:=hide hsame
 have hrow:=hide hrow
 have hlen:=hide hlen
 go_enter Tryz.func199,Tryz.ntmps199
 go_wp2_with (first
  | (go_at_call 112
     go_must (refine(CL.out _ CY.2.2.2).mono ?_)
     rintro e w1 ⟨g,rfl,o1,b1⟩
     obtain⟨x0,x1,x2,bw⟩:=CY (w:=w) (t0:=37) (t1:=38) (t2:=37) (cs:= #[.int .i64 R,.int .i64 K,.slice A n cp]) (ds:= #[.int .i64 p.1,.int .i64 p.2.1,.int .i64 p.2.2]) (es:= #[.int .i64 0,.int .i64 0,.slice none 0 0])
     have y0:=x0.below b1 x0.lt
     have y1:=x1.below b1 x1.lt
     have y2:=x2.below b1 x2.lt
     have bb:=bw.trans (b1.mono bw.size)
     have o1:=own_base' o1 bw.size
     obtain⟨a0,a1,a2,a3,a4,a5⟩:=y0.three
     have n0:=Ac o1 y0 (by decide)
     have X0:=hide (y0.Cm (.int .i64 R) (.int .i64 K) (.slice (some ⟨g,0,none⟩) n n))
     have X1:=hide (y1.Gc (g':=w.heap.size) (by omega) (.int .i64 R) (.int .i64 K) (.slice (some ⟨g,0,none⟩) n n))
     have X2:=hide (y2.Gc (g':=w.heap.size) (by omega) (.int .i64 R) (.int .i64 K) (.slice (some ⟨g,0,none⟩) n n))
     have O:=hide (ownsRow_setCell_other (ownsRow_setCell_other (ownsRow_setCell_other o1 (a:=⟨w.heap.size,0,none⟩) n0 (.int .i64 R)) (a:=⟨w.heap.size,1,none⟩) n0 (.int .i64 K)) (a:=⟨w.heap.size,2,none⟩) n0 (.slice (some ⟨g,0,none⟩) n n))
     have bs:=hide (BQ bb (Nat.le_refl _) (.int .i64 R) (.int .i64 K) (.slice (some ⟨g,0,none⟩) n n))
     clear x0 x1 x2 bw b1 y0 y1 y2 CL o1 n0 bb)
  | (go_at_call 66
     go_must (refine(RW.out _ g).mono ?_)
     rintro e w2 ⟨⟨c',rfl,hcR,hcM⟩,bR⟩
     rw [add0]
     have x0:=X0.out.below bR X0.out.lt
     have x1:=X1.out.below bR X1.out.lt
     have x2:=X2.out.below bR X2.out.lt
     have ho:=O.out.kept (BU bR none) (by simp [Value.ownBlock])
     have bb:=bs.out.trans (bR.mono bs.out.size)
     clear X0 X1 X2 O bs bR RW))
 go_loopw [12] (fun i wr=> ∃k:Nat,a<=k/\(k<=a\/(k:Int)<=t)/\i=.int .i64 k/\Box wr w.heap.size 37 #[.int .i64 R,.int .i64 K,.slice (some ⟨g,0,none⟩) n n] /\Box wr (w.heap.size+1) 38 #[.int .i64 p.1,.int .i64 p.2.1,.int .i64 p.2.2] /\Box wr (w.heap.size+1+1) 37 #[.int .i64 0,.int .i64 0,.slice none 0 0] /\
   wr.ownsRow w.heap.size 66 5 (.slice (some ⟨g,0,none⟩) n n) n (Ah (spl l z (Dn rw_ a k p)))/\Below w.heap.size w wr)
  (fun i _=>(t-intOf i).toNat)
 case atStart=>exact⟨a,Nat.le_refl _,.inl (Nat.le_refl _),rfl,x0,x1,x2,by rw [E8 _ _ _ _ (Nat.le_refl _),hsame.out];exact ho,bb⟩
 case round=>
  clear ho bb x0 x1 x2 a0 a1 a2 a3 a4 a5 ha
  obtain⟨k,hka,hkt,rfl,x0,x1,x2,ho,hb⟩:=hrel
  obtain⟨y0,y1,y2,_⟩:=x1.three
  have l1:=x1.lt
  have l2:g<wr.heap.size:=(ho.lt g rfl).2
  have lg:w.heap.size<=g:=(ho.lt g rfl).1
  have lb:w.heap.size<=wr.heap.size:=hb.size
  by_cases hlt:(k:Int)<t
  ·have hwl:=Em rw_ a k p
   rw [hrow.out] at hwl
   have hwl:=hide hwl
   have hsl:=hide (D5 (l:=l) (x:=z) (m:=Dn rw_ a k p) (by rw [hwl.out,hlen.out];omega))
   obtain⟨cd,hck⟩: ∃cd,(spl l z (Dn rw_ a k p))[z+k]? =some cd:=⟨_,List.getElem?_eq_getElem (by rw [hsl.out,hlen.out];omega)⟩
   have FIN: ∀w3,Below wr.heap.size wr w3->
     (w3.cell? ⟨g,z*5+k*5,none⟩=some (.int .i32 (PG.rn cd))/\w3.cell? ⟨g,z*5+k*5+1,none⟩=some (.int .i64 (PG.kd cd))/\w3.cell? ⟨g,z*5+k*5+2,none⟩=some (.int .i64 (PG.pn cd).1)/\w3.cell? ⟨g,z*5+k*5+3,none⟩=some (.int .i64 (PG.pn cd).2.1)/\w3.cell? ⟨g,z*5+k*5+4,none⟩=some (.int .i64 (PG.pn cd).2.2)/\
      w3.frozen? ⟨g,z*5+k*5,none⟩=false/\w3.frozen? ⟨g,z*5+k*5+1,none⟩=false/\w3.frozen? ⟨g,z*5+k*5+2,none⟩=false/\w3.frozen? ⟨g,z*5+k*5+3,none⟩=false/\w3.frozen? ⟨g,z*5+k*5+4,none⟩=false)/\
     Box (Cc w3 g (z*5+k*5) (PG.blank p)) w.heap.size 37 #[.int .i64 R,.int .i64 K,.slice (some ⟨g,0,none⟩) n n] /\Box (Cc w3 g (z*5+k*5) (PG.blank p)) (w.heap.size+1) 38 #[.int .i64 p.1,.int .i64 p.2.1,.int .i64 p.2.2] /\Box (Cc w3 g (z*5+k*5) (PG.blank p)) (w.heap.size+1+1) 37 #[.int .i64 0,.int .i64 0,.slice none 0 0] /\
     (Cc w3 g (z*5+k*5) (PG.blank p)).ownsRow w.heap.size 66 5 (.slice (some ⟨g,0,none⟩) n n) n (Ah (spl l z (Dn rw_ a (k+1) p)))/\Below w.heap.size w (Cc w3 g (z*5+k*5) (PG.blank p)):=fun w3 h3=>by
    have m0:=Ac ho x0 (by decide)
    have m1:=Ac ho x1 (by decide)
    have m2:=Ac ho x2 (by decide)
    have o3:=ho.kept (BU h3 none) (by simp [Value.ownBlock])
    have S:=FI o3 (k:=z+k) (o:=z*5+k*5) (by omega) (PG.blank p) (by omega) (by rw [hsl.out,hlen.out])
    have hs3:=h3.size
    refine⟨D9 o3 (by omega) hck,(x0.below h3 x0.lt).grown S.2 (fun e=>m0 e.symm),(x1.below h3 x1.lt).grown S.2 (fun e=>m1 e.symm),(x2.below h3 x2.lt).grown S.2 (fun e=>m2 e.symm),?_,(hb.trans (h3.mono lb)).grown S.2 (by omega) (by rintro _ ⟨⟩;exact lg)⟩
    rw [<- OZ p hka (by rw [hrow.out];omega), <- U4 _ (by rw [hwl.out,hlen.out];omega) (by rw [hwl.out];omega)]
    exact S.1
   have FIN:=hide FIN
   clear ho hck x0 x1 x2
   go_wp2_with (
    go_at_call 97
    go_must (refine(BC.out p _).mono ?_)
    rintro e w3 ⟨rfl,b3⟩
    obtain⟨⟨v0,v1,v2,v3,v4,f0,f1,f2,f3,f4⟩,G2⟩:=FIN.out _ b3
    have G2:=hide G2
    clear b3 FIN)
   go_roundw
   case rel=>exact⟨k+1,by omega,.inr (by omega),by go_num,G2.out⟩
   case measure=>simp [intOf];omega
  ·have hwe:Dn rw_ a k p=Dn rw_ a t.toNat p:=by
    rcases hkt with h | h
    ·rw [E8 _ _ _ _ h,E8 _ _ _ _ (by omega)]
    ·rw [show t.toNat=k from by omega]
   rw [hwe] at ho
   have hwl:=Em rw_ a t.toNat p
   rw [hrow.out] at hwl
   clear hwe
   obtain⟨lw,hlw⟩: ∃lw,Dn rw_ a t.toNat p=lw:=⟨_,rfl⟩
   rw [hlw] at ho hwl
   have hrw2:=U5 (l:=l) (m:=lw) (x:=z) (by rw [hwl,hlen.out];omega)
   rw [hwl] at hrw2
   have l8:=hide (U6 (l:=l) (m:=lw) (m':=Dm lw) (x:=z) (by rw [hwl,hlen.out];omega) (El lw))
   have hlw:=hide hlw
   have S2:=HS.out _ _ _ _ (BL.Cg ho)
   rw [add0,hrw2] at S2
   have hwl:=hide hwl
   have hsl:=hide (D5 (l:=l) (x:=z) (m:=lw) (by rw [hwl.out,hlen.out];omega))
   have n0:=Ac ho x0 (by decide)
   have n2:=Ac ho x2 (by decide)
   have x0:=hide x0
   have x2:=hide x2
   have ho:=hide ho
   clear x1 hrw2 BC y0 y1 y2 HS
   go_wp2_with (first
    | (go_at_call 114
       go_must (refine(Ho K c' _ _ _ _ S2 (Nat.le_refl _) (by omega)).mono ?_)
       rintro e w3 ⟨g3,rfl,o3,b3⟩
       have O3:=ho.out.kept (BU b3 none) (by simp [Value.ownBlock])
       have x0:=x0.out.below b3 x0.out.lt
       have x2:=x2.out.below b3 x2.out.lt
       have bb:=hb.trans (b3.mono hb.size)
       have s3:=BL.Cg o3
       clear b3 S2 o3 ho)
    | ((with_reducible refine Ic (o:=⟨some 36,_,_,_,_,_⟩) ?_)
       go_must (refine Ce (o:=⟨some 36,_,_,_,_,_⟩) rfl (.tmp 33) (.tmp 35) 35 35 rfl 66 i0 Tryz.underlying35 hi hz1 w.heap.size 66 g _ z n n _ _ (spl l z lw) rfl O3 rfl _ w3.heap.size K K K (Dm lw) rfl (Nat.min_self K) s3 (by omega) ?_)
       intro w4 O4 hg4
       rw [l8.out] at O4
       have x0:=x0.grown hg4 (fun e=>n0 e.symm)
       have x2:=x2.grown hg4 (fun e=>n2 e.symm)
       have bb:=bb.grown hg4 bb.size (by rintro _ ⟨⟩;exact lg)
       obtain⟨a0,a1,a2,a3,a4,a5⟩:=x0.three
       obtain⟨q0,q1,q2,q3,q4,q5⟩:=x2.three
       have O4:=hide O4
       clear n0 hg4 O3 s3))
   have X:=x2.Cm (.int .i64 R) (.int .i64 K) (.slice (some ⟨g,0,none⟩) n n)
   obtain⟨j0,j1,j2,_⟩:=X.three
   refine bodyPost_ret (v:=.agg #[.int .i64 R,.int .i64 K,.slice (some ⟨g,0,none⟩) n n]) (by simp [results,Tryz.results199,go_sem,j0,j1,j2]) rfl ⟨g,rfl,?_,?_⟩
   ·rw [hlw.out]
    exact ownsRow_setCell_other (ownsRow_setCell_other (ownsRow_setCell_other O4.out (a:=⟨w.heap.size+1+1,0,none⟩) n2 _) (a:=⟨w.heap.size+1+1,1,none⟩) n2 _) (a:=⟨w.heap.size+1+1,2,none⟩) n2 _
   ·exact BQ bb (by omega) _ _ _
end Go.Proofs.YtoaabebgmdbjeaaGreatDoor
namespace Go.Proofs.YtoaabebgmdbjeaaGreatDoor
open Go.RowKit
theorem PG.YC {G:PG.Gr} {r c m:Nat} {p:PG.Pn} (hr:r<G.rows):PG.Alike (PG.DW G r c (min ((c:Int)+m) G.AB).toNat p) (PG.DW G r c (c+m) p):=by
 have s1:=SN.DK G r c (min ((c:Int)+m) G.AB).toNat p
 have s2:=SN.DK G r c (c+m) p
 refine⟨s1.1.trans s2.1.symm,s1.2.trans s2.2.symm,fun i j hi hj=>?_⟩
 rw [s1.2] at hj
 rw [PG.VX hr,PG.VX hr]
 by_cases e:i=r
 ·rw [if_pos e,if_pos e]
  refine PG.Md (fun q hq=>?_) hj
  unfold PG.FP
  by_cases h1:c<=q/\q<c+m
  ·rw [if_pos h1,if_pos (by omega)]
  ·rw [if_neg h1,if_neg (by omega)]
 ·rw [if_neg e,if_neg e]
theorem YD (G:PG.Gr) (v:Value) (r c m:Nat) (p:PG.Pn) (w:World) (hG:PG.BM G) (hc:c<G.AB) (hr:r<G.rows) (hm:m<=65535) (h:IsG w G v):Calls Tryz.prog 199 #[v,.int .i64 r,.int .i64 c,.int .i64 ((c:Int)+m),pv p] w (DX w (PG.DW G r c (c+m) p)):=by
 have hgc:=hG.2.2.2.1
 obtain⟨A,cp,rfl,hl,h1,h2⟩:=h.open_
 refine(YB G.rows G.AB r _ cp w.heap.size c c ((c:Int)+m) (min ((c:Int)+m) G.AB) p A _ w hl (Nat.le_refl _) rfl (by omega) hG.2.1 hG.2.2.1 hG.2.2.2.1 (by omega) (by omega) (by split<;>omega) (by split<;>omega)).mono fun e w' hm=>?_
 obtain⟨v',e1,hi,hb⟩:=KU hm (PG.Mr hr _ _ p) (PG.DK ..).1 (PG.DK ..).2
 exact⟨v',e1,hi.alike (PG.YC hr),hb⟩
end Go.Proofs.YtoaabebgmdbjeaaGreatDoor
