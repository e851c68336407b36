/- A part of the proof: ScreenEq, ScreenYes. -/
import Derived.Test.YtoaabebgmdbjeaaGreatDoorSb08
set_option maxRecDepth 100000
set_option maxHeartbeats 16000000
set_option linter.unusedVariables false
namespace Go.Proofs.YtoaabebgmdbjeaaGreatDoor
open Go Go.RowKit
theorem KS {P:Program} (d:Nat) (t e:TypeId) (k j:IntKind) (a b a' b':Int) (w:World) (ht:P.underlying t=some (.array 2 e)) (he:P.underlying e=some (.int k)) (hz: ∀w,(Go.sizeOf e).run P w=.ok 1 w) (hg: ∀w,(isAgg e).run P w=.ok false w):
  (Op.equalIn (d+2) t (.agg #[.int j a,.int j b]) (.agg #[.int j a',.int j b'])).run P w=.ok (a==a'&&b==b') w:=by
 have hi: ∀x y w,(Op.equalIn (d+1) e (.int j x) (.int j y)).run P w=.ok (x==y) w:=fun x y w=>run_equalIn_int w d e j k x y he
 have hp0: ∀(x y:Value) w,(Go.part e #[x,y] 0).run P w=.ok x w:=fun x y w=>by simp [Go.part,hg]
 have hp1: ∀(x y:Value) w,(Go.part e #[x,y] 1).run P w=.ok y w:=fun x y w=>by simp [Go.part,hg]
 rw [Op.equalIn]
 simp only [Sem.run_bind,run_underlying ht,Result.andThen_ok,hz]
 rw [Std.Legacy.Range.forIn_eq_forIn_range']
 simp [Std.Legacy.Range.size,List.range',hp0,hp1,hi]
 by_cases h1:a=a'<;>by_cases h2:b=b'<;>simp [h1,h2]
theorem Td:Tryz.prog.eqGuardType Tryz.prog.depth 39=false:=by kernel_rfl
theorem Kt:Tryz.prog.eqGuardType Tryz.prog.depth 41=false:=by kernel_rfl
theorem OD (d:Nat) (a b a' b':Int) (w:World):(Op.equalIn (d+2) 39 (.agg #[.int .u8 a,.int .u8 b]) (.agg #[.int .u8 a',.int .u8 b'])).run Tryz.prog w=.ok (a==a'&&b==b') w:=
 KS d _ 5 .u8 .u8 a b a' b' w (by kernel_rfl) Tryz.underlying5 (fun w=>by have z:=Tryz.sizeOf5;go_simp) (fun w=>by have z:=Tryz.isAgg5;go_simp)
theorem Te (d:Nat) (r c p0 p1 p2 s0 s1 h r' c' q0 q1 q2 t0 t1 h':Int) (o o':Bool) (w:World):
  (Op.equalIn (d+3) 41 (.agg #[.int .i64 r,.int .i64 c,.int .i64 p0,.int .i64 p1,.int .i64 p2,.int .u8 s0,.int .u8 s1,.int .i64 h,.bool o]) (.agg #[.int .i64 r',.int .i64 c',.int .i64 q0,.int .i64 q1,.int .i64 q2,.int .u8 t0,.int .u8 t1,.int .i64 h',.bool o'])).run Tryz.prog w
   =.ok (r==r'&&c==c'&&(p0==q0&&p1==q1&&p2==q2)&&(s0==t0&&s1==t1)&&h==h'&&o==o') w:=by
 have u3:=Tryz.underlying3
 have a3:=Tryz.isAgg3
 have z3:=Tryz.sizeOf3
 have u4:=Tryz.underlying4
 have a4:=Tryz.isAgg4
 have z4:=Tryz.sizeOf4
 have a5:=Tryz.isAgg38
 have z5:=Tryz.sizeOf38
 have a6:=Tryz.isAgg39
 have z6:=Tryz.sizeOf39
 have hS:Tryz.prog.underlying 41=some (.struct (Tryz.prog.fieldsOf 41)):=by kernel_rfl
 have hp:Tryz.prog.stoodInHeld 41=false:=by kernel_rfl
 have pe:=Lh d p0 p1 p2 q0 q1 q2
 have se:=OD d s0 s1 t0 t1
 rw [run_equalIn_agg w (d+2) _ _ _ hS hp]
 simp only [Program.fieldsOf,Tryz.underlying41]
 generalize (p0==q0&&p1==q1&&p2==q2)=b3 at pe⊢
 generalize (s0==t0&&s1==t1)=b4 at se⊢
 go_simp
 by_cases h1:r=r'<;>by_cases h2:c=c'<;>by_cases h5:h=h'<;>cases b3<;>cases b4<;>cases o<;>cases o'<;>simp [h1,h2,h5]
theorem Zl (a b a' b':Int) (w:World):(binOp .eql 39 (.agg #[.int .u8 a,.int .u8 b]) (.agg #[.int .u8 a',.int .u8 b'])).run Tryz.prog w=.ok (.bool (a==a'&&b==b')) w:=by
 rw [run_eql_struct,OD 9998]
 rfl
theorem KT (r c p0 p1 p2 s0 s1 h r' c' q0 q1 q2 t0 t1 h':Int) (o o':Bool) (w:World):
  (binOp .eql 41 (.agg #[.int .i64 r,.int .i64 c,.int .i64 p0,.int .i64 p1,.int .i64 p2,.int .u8 s0,.int .u8 s1,.int .i64 h,.bool o]) (.agg #[.int .i64 r',.int .i64 c',.int .i64 q0,.int .i64 q1,.int .i64 q2,.int .u8 t0,.int .u8 t1,.int .i64 h',.bool o'])).run Tryz.prog w
   =.ok (.bool (r==r'&&c==c'&&(p0==q0&&p1==q1&&p2==q2)&&(s0==t0&&s1==t1)&&h==h'&&o==o')) w:=by
 rw [run_eql_struct,Te 9997]
 rfl
end Go.Proofs.YtoaabebgmdbjeaaGreatDoor
namespace Go.Proofs.YtoaabebgmdbjeaaGreatDoor
open Go.RowKit
theorem Tf (R K n c m c' row col top bot tabs sr sc B B':Nat) (p0 p1 p2 s0 s1 sh q0 q1 q2 t0 t1 th:Int) (pend wrap org shown keys pad so:Bool) (l:List PG.Cl) (A A':Option Addr) (w:World) (hx:Au w B A n l) (hy:Au w B' A' m l) (hB:B<=w.heap.size) (hB':B'<=w.heap.size) (hn:n<=1099511627776):
  Calls Tryz.prog 16 #[.agg #[.int .i64 R,.int .i64 K,.slice A n c,.int .i64 row,.int .i64 col,.bool pend,.int .i64 top,.int .i64 bot,.int .i64 p0,.int .i64 p1,.int .i64 p2,.int .u64 tabs,.int .u8 s0,.int .u8 s1,.int .i64 sh,.bool wrap,.bool org,.bool shown,.bool keys,.bool pad,.int .i64 sr,.int .i64 sc,.int .i64 q0,.int .i64 q1,.int .i64 q2,.int .u8 t0,.int .u8 t1,.int .i64 th,.bool so],.agg #[.int .i64 R,.int .i64 K,.slice A' m c',.int .i64 row,.int .i64 col,.bool pend,.int .i64 top,.int .i64 bot,.int .i64 p0,.int .i64 p1,.int .i64 p2,.int .u64 tabs,.int .u8 s0,.int .u8 s1,.int .i64 sh,.bool wrap,.bool org,.bool shown,.bool keys,.bool pad,.int .i64 sr,.int .i64 sc,.int .i64 q0,.int .i64 q1,.int .i64 q2,.int .u8 t0,.int .u8 t1,.int .i64 th,.bool so]] w fun e w'=>e=.returned (.bool true)/\Below w.heap.size w w':=by
 have SC:=hide (fun w' (hb:Below w.heap.size w w')=>Rz l A A' B B' n c m c' w' (hx.below (hb.mono hB)) (hy.below (hb.mono hB')) hn)
 have ep: ∀w',(binOp .eql 38 (.agg #[.int .i64 p0,.int .i64 p1,.int .i64 p2]) (.agg #[.int .i64 p0,.int .i64 p1,.int .i64 p2])).run Tryz.prog w'=.ok (.bool true) w':=fun w'=>by rw [Ue];simp
 have es: ∀w',(binOp .eql 39 (.agg #[.int .u8 s0,.int .u8 s1]) (.agg #[.int .u8 s0,.int .u8 s1])).run Tryz.prog w'=.ok (.bool true) w':=fun w'=>by rw [Zl];simp
 have ev: ∀w',(binOp .eql 41 (.agg #[.int .i64 sr,.int .i64 sc,.int .i64 q0,.int .i64 q1,.int .i64 q2,.int .u8 t0,.int .u8 t1,.int .i64 th,.bool so]) (.agg #[.int .i64 sr,.int .i64 sc,.int .i64 q0,.int .i64 q1,.int .i64 q2,.int .u8 t0,.int .u8 t1,.int .i64 th,.bool so])).run Tryz.prog w'=.ok (.bool true) w':=fun w'=>by rw [KT];simp
 have sg:=Td
 have vg:=Kt
 have pg:=Ve
 clear hx hy hB hB' hn
 have x1:=hide (Box.new w 43 #[.int .i64 R,.int .i64 K,.slice A n c,.int .i64 row,.int .i64 col,.bool pend,.int .i64 top,.int .i64 bot,.int .i64 p0,.int .i64 p1,.int .i64 p2,.int .u64 tabs,.int .u8 s0,.int .u8 s1,.int .i64 sh,.bool wrap,.bool org,.bool shown,.bool keys,.bool pad,.int .i64 sr,.int .i64 sc,.int .i64 q0,.int .i64 q1,.int .i64 q2,.int .u8 t0,.int .u8 t1,.int .i64 th,.bool so])
 have x2:=hide (Box.new (w.alloc (.cells #[.int .i64 R,.int .i64 K,.slice A n c,.int .i64 row,.int .i64 col,.bool pend,.int .i64 top,.int .i64 bot,.int .i64 p0,.int .i64 p1,.int .i64 p2,.int .u64 tabs,.int .u8 s0,.int .u8 s1,.int .i64 sh,.bool wrap,.bool org,.bool shown,.bool keys,.bool pad,.int .i64 sr,.int .i64 sc,.int .i64 q0,.int .i64 q1,.int .i64 q2,.int .u8 t0,.int .u8 t1,.int .i64 th,.bool so] 43)) 43 #[.int .i64 R,.int .i64 K,.slice A' m c',.int .i64 row,.int .i64 col,.bool pend,.int .i64 top,.int .i64 bot,.int .i64 p0,.int .i64 p1,.int .i64 p2,.int .u64 tabs,.int .u8 s0,.int .u8 s1,.int .i64 sh,.bool wrap,.bool org,.bool shown,.bool keys,.bool pad,.int .i64 sr,.int .i64 sc,.int .i64 q0,.int .i64 q1,.int .i64 q2,.int .u8 t0,.int .u8 t1,.int .i64 th,.bool so])
 have b0:Below w.heap.size w ((w.alloc (.cells #[.int .i64 R,.int .i64 K,.slice A n c,.int .i64 row,.int .i64 col,.bool pend,.int .i64 top,.int .i64 bot,.int .i64 p0,.int .i64 p1,.int .i64 p2,.int .u64 tabs,.int .u8 s0,.int .u8 s1,.int .i64 sh,.bool wrap,.bool org,.bool shown,.bool keys,.bool pad,.int .i64 sr,.int .i64 sc,.int .i64 q0,.int .i64 q1,.int .i64 q2,.int .u8 t0,.int .u8 t1,.int .i64 th,.bool so] 43)).alloc (.cells #[.int .i64 R,.int .i64 K,.slice A' m c',.int .i64 row,.int .i64 col,.bool pend,.int .i64 top,.int .i64 bot,.int .i64 p0,.int .i64 p1,.int .i64 p2,.int .u64 tabs,.int .u8 s0,.int .u8 s1,.int .i64 sh,.bool wrap,.bool org,.bool shown,.bool keys,.bool pad,.int .i64 sr,.int .i64 sc,.int .i64 q0,.int .i64 q1,.int .i64 q2,.int .u8 t0,.int .u8 t1,.int .i64 th,.bool so] 43)):=((Below.refl _ _).alloc (Nat.le_refl _) _).alloc (by simp) _
 have x1':=hide (x1.out.alloc (.cells #[.int .i64 R,.int .i64 K,.slice A' m c',.int .i64 row,.int .i64 col,.bool pend,.int .i64 top,.int .i64 bot,.int .i64 p0,.int .i64 p1,.int .i64 p2,.int .u64 tabs,.int .u8 s0,.int .u8 s1,.int .i64 sh,.bool wrap,.bool org,.bool shown,.bool keys,.bool pad,.int .i64 sr,.int .i64 sc,.int .i64 q0,.int .i64 q1,.int .i64 q2,.int .u8 t0,.int .u8 t1,.int .i64 th,.bool so] 43))
 go_enter Tryz.func16,Tryz.ntmps16
 go_wp2_with fail
 refine(SC.out _ b0).mono ?_
 rintro e w1 ⟨rfl,q,rfl⟩
 have b1:=hide (below_drewN b0 q)
 clear SC b0 x1 x2 x1'
 go_wp2_with fail
 go_ret
 exact⟨rfl,b1.out⟩
end Go.Proofs.YtoaabebgmdbjeaaGreatDoor
namespace Go.Proofs.YtoaabebgmdbjeaaGreatDoor
open Go.RowKit
theorem Aq {w:World} {g:Nat} {cs:Array Value} (h:Box w g 43 cs) (hs:cs.size=29) (ρ:Operand->Value) (o:Oper) {y:Operand} (ho:o.op=.load 43 y) (hy:ρ y=.pointer (some ⟨g,0,none⟩)):
  (execOp ρ o).run Tryz.prog w=.ok (.value (.agg cs)) w:=by
 obtain⟨d,hu,hd⟩:=JG
 have e:(.agg cs:Value)=.agg cs.toList.toArray:=by simp
 unfold execOp
 simp only [ho,hy,Instr.loadAt,Instr.sureAddr,Sem.run_bind,Sem.run_pure,Result.andThen_ok,run_loadVar_mid w g 0 43 cs.toList d h.rangeAt hu hd (by rw [GU];simp [hs])]
def C8 (S:SN.Sc) (v:Value) (w:World):Prop:= ∃A c,v=.agg (scA (.slice A (S.g.rows*S.g.AB) c) S)/\IsG w S.g (gv S.g.rows S.g.AB (.slice A (S.g.rows*S.g.AB) c))
theorem C8.stays {Ts:List TypeId} {S:SN.Sc} (h:Ts.all (fun x=>x !=66)=true):FZ Ts (C8 S):=
 ⟨fun v w w' ⟨A,c,h1,h2⟩ hb=>⟨A,c,h1,h2.low hb⟩,fun v w w' g' T' cs' ⟨A,c,h1,h2⟩ hb hT hk=>⟨A,c,h1,h2.kept hb (fun e=>by
  have:=List.all_eq_true.1 h _ hT
  simp [e] at this) hk⟩⟩
theorem D7 {S:SN.Sc} {v:Value} {w:World} (h:IsS w S v):C8 S v w:=by
 obtain⟨x,rfl,hg⟩:=h
 obtain⟨A,c,rfl⟩:=Ad hg
 exact⟨A,c,rfl,hg⟩
theorem Tg (S:SN.Sc) (A A':Option Addr) (c c':Nat) (w:World) (hn:S.g.rows*S.g.AB<=1099511627776) (h:IsG w S.g (gv S.g.rows S.g.AB (.slice A (S.g.rows*S.g.AB) c))) (h':IsG w S.g (gv S.g.rows S.g.AB (.slice A' (S.g.rows*S.g.AB) c'))):
  Calls Tryz.prog 16 #[.agg (scA (.slice A (S.g.rows*S.g.AB) c) S),.agg (scA (.slice A' (S.g.rows*S.g.AB) c') S)] w fun e w'=>e=.returned (.bool true)/\Below w.heap.size w w':=
 Tf S.g.rows S.g.AB _ c _ c' S.row S.col S.top S.bot S.tabs S.sv.row S.sv.col w.heap.size w.heap.size S.pen.1 S.pen.2.1 S.pen.2.2 S.s0 S.s1 S.sh S.sv.pen.1 S.sv.pen.2.1 S.sv.pen.2.2 S.sv.s0 S.sv.s1 S.sv.sh S.pend S.wrap S.org S.shown S.keys S.pad S.sv.org (PG.cells S.g) A A' w (Jm h).1 (Jm h').1 (Nat.le_refl _) (Nat.le_refl _) hn
end Go.Proofs.YtoaabebgmdbjeaaGreatDoor
namespace Go.Proofs.YtoaabebgmdbjeaaGreatDoor
open Go.RowKit
namespace SN
def OE (q:Rw):Bool:=if q.g.rows=1 then decide (q.top=0)&&decide (q.bot=0) else decide (0<=q.top)&&(decide (q.top<q.bot)&&decide (q.bot<q.g.rows))
def OG (q:Rw):Bool:= !q.pend||(q.wrap&&decide (q.col=q.g.AB-1))
def isB (b:Int):Bool:=b==66||b==48
def Qj (g:PG.Gr) (r c:Int) (p:PG.Pn) (a b h:Int):Bool:=Gg g r c&&((h==0||h==1)&&(C.right p.1 p.2.1 p.2.2&&(isB a&&isB b)))
theorem Qk (q:Rw):(OE q&&(OG q&&(Qj q.g q.row q.col q.pen q.s0 q.s1 q.sh&&Qj q.g q.Du q.Dv q.Ba q.t0 q.t1 q.th)))=q.right:=by
 have e1:OE q=(decide (0<=q.top/\q.top<q.bot/\q.bot<q.g.rows)||decide (q.g.rows=1/\q.top=0/\q.bot=0)):=by
  unfold OE
  rw [Bool.eq_iff_iff]
  split<;>simp only [Bool.and_eq_true,Bool.or_eq_true,decide_eq_true_eq] <;>omega
 have e2:OG q=(!q.pend||(q.wrap&&decide (q.col+1=q.g.AB))):=by
  unfold OG
  congr 2
  simp only [decide_eq_decide]
  omega
 have e3: ∀g r c p a b h,Qj g r c p a b h=(Gg g r c&&C.right p.1 p.2.1 p.2.2&&R8 a b h):=fun g r c p a b h=>by
  unfold Qj R8 isB
  cases Gg g r c<;>cases C.right p.1 p.2.1 p.2.2<;>cases (h==0||h==1)<;>simp
 rw [e1,e2,e3,e3]
 unfold Rw.right
 generalize Gg q.g q.row q.col=a1
 generalize Gg q.g q.Du q.Dv=a2
 generalize C.right q.pen.1 q.pen.2.1 q.pen.2.2=a3
 generalize C.right q.Ba.1 q.Ba.2.1 q.Ba.2.2=a4
 generalize R8 q.s0 q.s1 q.sh=a5
 generalize R8 q.t0 q.t1 q.th=a6
 generalize (decide (0<=q.top/\q.top<q.bot/\q.bot<q.g.rows)||decide (q.g.rows=1/\q.top=0/\q.bot=0))=a7
 generalize (!q.pend||(q.wrap&&decide (q.col+1=q.g.AB)))=a8
 cases a1<;>cases a2<;>cases a3<;>cases a4<;>cases a5<;>cases a6<;>cases a7<;>cases a8<;>rfl
end SN
theorem Ql (b:Int) (w:World):Calls Tryz.prog 95 #[.int .u8 b] w fun e w'=>e=.returned (.bool (SN.isB b))/\w=w':=by
 have HR: ∀r:Bool,r=SN.isB b->Ending.returned (.bool r)=.returned (.bool (SN.isB b)):=fun r h=>LP h
 unfold SN.isB at HR⊢
 rcases h1:(b==66) with _ | _
 ·go_enter Tryz.func95,Tryz.ntmps95
  go_wp2_with fail
  go_ret
  exact⟨rfl,rfl⟩
 ·go_enter Tryz.func95,Tryz.ntmps95
  go_wp2_with fail
  go_ret
  exact⟨rfl,rfl⟩
theorem Ti (q:SN.Rw) (x:Value) (b:Bool) (hb:SN.OE q=b) (hR:(q.g.rows:Int)<=1000) (w:World):Calls Tryz.prog 46 #[.agg (rwA x q)] w fun e w'=>e=.returned (.bool b)/\Below w.heap.size w w':=by
 unfold SN.OE at hb
 subst hb
 by_cases h1:q.g.rows=1
 ·have e1:((q.g.rows:Int)==1)=true:=by simp;omega
  rw [if_pos h1]
  clear h1
  rcases h2:(q.top==0) with _ | _
  ·rw [show decide (q.top=0)=false from h2]
   go_enter Tryz.func46,Tryz.ntmps46
   go_upto_region 1 with (refine BU rfl _ rfl rfl ?_;intro g w1 hB hb1 hg1)
   have k0:=hB.c0
   have k6:=hB.c6
   have k7:=hB.c7
   go_wp2_with fail
   go_ret
   exact⟨rfl,hb1⟩
  ·rw [show decide (q.top=0)=true from h2]
   rcases h3:(q.bot==0) with _ | _
   ·rw [show decide (q.bot=0)=false from h3]
    go_enter Tryz.func46,Tryz.ntmps46
    go_upto_region 1 with (refine BU rfl _ rfl rfl ?_;intro g w1 hB hb1 hg1)
    have k0:=hB.c0
    have k6:=hB.c6
    have k7:=hB.c7
    go_wp2_with fail
    go_ret
    exact⟨rfl,hb1⟩
   ·rw [show decide (q.bot=0)=true from h3]
    go_enter Tryz.func46,Tryz.ntmps46
    go_upto_region 1 with (refine BU rfl _ rfl rfl ?_;intro g w1 hB hb1 hg1)
    have k0:=hB.c0
    have k6:=hB.c6
    have k7:=hB.c7
    go_wp2_with fail
    go_ret
    exact⟨rfl,hb1⟩
 ·have e1:((q.g.rows:Int)==1)=false:=by simp;omega
  rw [if_neg h1]
  clear h1
  rcases h2:decide (0<=q.top) with _ | _
  ·go_enter Tryz.func46,Tryz.ntmps46
   go_upto_region 1 with (refine BU rfl _ rfl rfl ?_;intro g w1 hB hb1 hg1)
   have k0:=hB.c0
   have k6:=hB.c6
   have k7:=hB.c7
   go_wp2_with fail
   go_ret
   exact⟨rfl,hb1⟩
  ·rcases h3:decide (q.top<q.bot) with _ | _
   ·go_enter Tryz.func46,Tryz.ntmps46
    go_upto_region 1 with (refine BU rfl _ rfl rfl ?_;intro g w1 hB hb1 hg1)
    have k0:=hB.c0
    have k6:=hB.c6
    have k7:=hB.c7
    go_wp2_with fail
    go_ret
    exact⟨rfl,hb1⟩
   ·rcases h4:decide (q.bot<(q.g.rows:Int)) with _ | _
    ·go_enter Tryz.func46,Tryz.ntmps46
     go_upto_region 1 with (refine BU rfl _ rfl rfl ?_;intro g w1 hB hb1 hg1)
     have k0:=hB.c0
     have k6:=hB.c6
     have k7:=hB.c7
     go_wp2_with fail
     go_ret
     exact⟨rfl,hb1⟩
    ·go_enter Tryz.func46,Tryz.ntmps46
     go_upto_region 1 with (refine BU rfl _ rfl rfl ?_;intro g w1 hB hb1 hg1)
     have k0:=hB.c0
     have k6:=hB.c6
     have k7:=hB.c7
     go_wp2_with fail
     go_ret
     exact⟨rfl,hb1⟩
theorem iR (q:SN.Rw) (x:Value) (b:Bool) (hb:SN.OG q=b) (hK:(q.g.AB:Int)<=1000) (w:World):Calls Tryz.prog 47 #[.agg (rwA x q)] w fun e w'=>e=.returned (.bool b)/\Below w.heap.size w w':=by
 unfold SN.OG at hb
 subst hb
 rcases h1:q.pend with _ | _
 ·go_enter Tryz.func47,Tryz.ntmps47
  go_upto_region 1 with (refine BU rfl _ rfl rfl ?_;intro g w1 hB hb1 hg1)
  have k5:w1.cell? ⟨g,5,none⟩=some (.bool false):=h1▸hB.c5
  go_wp2_with fail
  go_ret
  exact⟨rfl,hb1⟩
 ·rcases h2:q.wrap with _ | _
  ·go_enter Tryz.func47,Tryz.ntmps47
   go_upto_region 1 with (refine BU rfl _ rfl rfl ?_;intro g w1 hB hb1 hg1)
   have k5:w1.cell? ⟨g,5,none⟩=some (.bool true):=h1▸hB.c5
   have k15:w1.cell? ⟨g,15,none⟩=some (.bool false):=h2▸hB.c15
   go_wp2_with fail
   go_ret
   exact⟨rfl,hb1⟩
  ·go_enter Tryz.func47,Tryz.ntmps47
   go_upto_region 1 with (refine BU rfl _ rfl rfl ?_;intro g w1 hB hb1 hg1)
   have k1:=hB.c1
   have k4:=hB.c4
   have k5:w1.cell? ⟨g,5,none⟩=some (.bool true):=h1▸hB.c5
   have k15:w1.cell? ⟨g,15,none⟩=some (.bool true):=h2▸hB.c15
   go_wp2_with fail
   go_ret
   exact⟨rfl,hb1⟩
end Go.Proofs.YtoaabebgmdbjeaaGreatDoor
namespace Go.Proofs.YtoaabebgmdbjeaaGreatDoor
open Go.RowKit
theorem Wx (G:PG.Gr) (r c:Int): ∃F b,atI G r c=atv F b/\SN.Gg G r c=b:=by
 unfold SN.Gg
 by_cases h:0<=r/\r<G.rows/\0<=c/\c<G.AB
 ·exact⟨_,true,if_pos h,by simp;omega⟩
 ·exact⟨_,false,if_neg h,by simp;omega⟩
theorem Zm (G:PG.Gr) (hG:PG.BL G) (x:Value) (r c:Int) (p:PG.Pn) (a b h:Int) (o:Bool) (v:Bool) (hv:SN.Qj G r c p a b h=v) (w:World) (hx:IsG w G (gv G.rows G.AB x)):
  Calls Tryz.prog 48 #[gv G.rows G.AB x,.agg #[.int .i64 r,.int .i64 c,.int .i64 p.1,.int .i64 p.2.1,.int .i64 p.2.2,.int .u8 a,.int .u8 b,.int .i64 h,.bool o]] w fun e w'=>e=.returned (.bool v)/\Below w.heap.size w w':=by
 obtain⟨A,cp,rfl⟩:=Ad hx
 obtain⟨F,P,hF,hP⟩:=Wx G r c
 have AT:=hide (fun w' (hb:Below w.heap.size w w')=>hF▸pK hG (hx.low hb) r c)
 obtain⟨vp,hvp⟩: ∃vp,C.right p.1 p.2.1 p.2.2=vp:=⟨_,rfl⟩
 obtain⟨va,hva⟩: ∃va,SN.isB a=va:=⟨_,rfl⟩
 obtain⟨vb,hvb⟩: ∃vb,SN.isB b=vb:=⟨_,rfl⟩
 have PR:=hide (fun w'=>(Na p.1 p.2.1 p.2.2 w').mono fun e w'' (h:_/\_)=>(⟨hvp▸h.1,h.2▸(Below.refl w'.heap.size w').alloc (Nat.le_refl _) _⟩:e=.returned (.bool vp)/\Below w'.heap.size w' w''))
 have IA:=hide (fun w'=>hva▸Ql a w')
 have IB:=hide (fun w'=>hvb▸Ql b w')
 subst hv
 unfold SN.Qj
 rw [hP,hvp,hva,hvb]
 clear hF hP hvp hva hvb hx
 obtain⟨b1,b2⟩:Below w.heap.size w (w.alloc (.cells #[.int .i64 G.rows,.int .i64 G.AB,.slice A (G.rows*G.AB) cp] 37))/\True:=⟨(Below.refl _ _).alloc (Nat.le_refl _) _,trivial⟩
 have b2:=b1.alloc b1.size (.cells #[.int .i64 r,.int .i64 c,.int .i64 p.1,.int .i64 p.2.1,.int .i64 p.2.2,.int .u8 a,.int .u8 b,.int .i64 h,.bool o] 41)
 have X:=Box.new (w.alloc (.cells #[.int .i64 G.rows,.int .i64 G.AB,.slice A (G.rows*G.AB) cp] 37)) 41 #[.int .i64 r,.int .i64 c,.int .i64 p.1,.int .i64 p.2.1,.int .i64 p.2.2,.int .u8 a,.int .u8 b,.int .i64 h,.bool o]
 have HB:=hide b2
 have HX:=hide X
 clear b1 b2 X
 unfold gv
 unfold gv at AT
 go_enter Tryz.func48,Tryz.ntmps48
 go_wp2_with fail
 refine(AT.out _ HB.out).mono ?_
 rintro e w1 ⟨rfl,bb⟩
 simp only [atv,cv]
 go_upto_region 2 with fail
 have hlt:w.heap.size+1<w1.heap.size:=by have:=bb.size;simp at this;omega
 have b3:=HB.out.trans (bb.mono HB.out.size)
 have X3:Box w1 (w.heap.size+1) 41 #[.int .i64 r,.int .i64 c,.int .i64 p.1,.int .i64 p.2.1,.int .i64 p.2.2,.int .u8 a,.int .u8 b,.int .i64 h,.bool o] :=by
  have:=HX.out.below bb (by simp)
  simpa using this
 have X4:=X3.alloc (.cells #[.int .i32 (PG.rn F),.int .i64 (PG.kd F),.int .i64 (PG.pn F).1,.int .i64 (PG.pn F).2.1,.int .i64 (PG.pn F).2.2] 66)
 have b4:=b3.alloc b3.size (.cells #[.int .i32 (PG.rn F),.int .i64 (PG.kd F),.int .i64 (PG.pn F).1,.int .i64 (PG.pn F).2.1,.int .i64 (PG.pn F).2.2] 66)
 clear X3 b3 bb HX HB AT
 generalize w1.alloc (.cells #[.int .i32 (PG.rn F),.int .i64 (PG.kd F),.int .i64 (PG.pn F).1,.int .i64 (PG.pn F).2.1,.int .i64 (PG.pn F).2.2] 66)=w4 at X4 b4⊢
 have k2:w4.cell? ⟨w.heap.size+1,2,none⟩=some (.int .i64 p.1):=X4.cell 2
 have k3:w4.cell? ⟨w.heap.size+1,3,none⟩=some (.int .i64 p.2.1):=X4.cell 3
 have k4:w4.cell? ⟨w.heap.size+1,4,none⟩=some (.int .i64 p.2.2):=X4.cell 4
 have k7:w4.cell? ⟨w.heap.size+1,7,none⟩=some (.int .i64 h):=X4.cell 7
 rcases h0:(h==0) with _ | _
 ·rcases h1:(h==1) with _ | _
  ·skip
   rcases P with _ | _
   ·go_wp2_with fail
    go_ret
    refine⟨?_,b4⟩
    first | rfl | (rw [h0];rfl) | (rw [h0,h1];rfl)
   ·go_wp2_with fail
    go_ret
    refine⟨?_,b4⟩
    first | rfl | (rw [h0];rfl) | (rw [h0,h1];rfl)
  ·skip
   rcases P with _ | _
   ·go_wp2_with fail
    go_ret
    refine⟨?_,b4⟩
    first | rfl | (rw [h0];rfl) | (rw [h0,h1];rfl)
   ·rcases vp with _ | _
    ·skip
     go_wp2_with fail
     refine(PR.out _).mono ?_
     rintro e w5 ⟨rfl,b5⟩
     have X5:=X4.below b5 X4.lt
     have b6:=b4.trans (b5.mono b4.size)
     have k5:w5.cell? ⟨w.heap.size+1,5,none⟩=some (.int .u8 a):=X5.cell 5
     have k6:w5.cell? ⟨w.heap.size+1,6,none⟩=some (.int .u8 b):=X5.cell 6
     clear b5
     go_wp2_with fail
     go_ret
     refine⟨?_,b6⟩
     first | rfl | (rw [h0];rfl) | (rw [h0,h1];rfl)
    ·rcases va with _ | _
     ·skip
      go_wp2_with fail
      refine(PR.out _).mono ?_
      rintro e w5 ⟨rfl,b5⟩
      have X5:=X4.below b5 X4.lt
      have b6:=b4.trans (b5.mono b4.size)
      have k5:w5.cell? ⟨w.heap.size+1,5,none⟩=some (.int .u8 a):=X5.cell 5
      have k6:w5.cell? ⟨w.heap.size+1,6,none⟩=some (.int .u8 b):=X5.cell 6
      clear b5
      go_wp2_with fail
      refine(IA.out _).mono ?_
      rintro e w' ⟨rfl,rfl⟩
      go_wp2_with fail
      go_ret
      refine⟨?_,b6⟩
      first | rfl | (rw [h0];rfl) | (rw [h0,h1];rfl)
     ·skip
      go_wp2_with fail
      refine(PR.out _).mono ?_
      rintro e w5 ⟨rfl,b5⟩
      have X5:=X4.below b5 X4.lt
      have b6:=b4.trans (b5.mono b4.size)
      have k5:w5.cell? ⟨w.heap.size+1,5,none⟩=some (.int .u8 a):=X5.cell 5
      have k6:w5.cell? ⟨w.heap.size+1,6,none⟩=some (.int .u8 b):=X5.cell 6
      clear b5
      go_wp2_with fail
      refine(IA.out _).mono ?_
      rintro e w' ⟨rfl,rfl⟩
      go_wp2_with fail
      refine(IB.out _).mono ?_
      rintro e w' ⟨rfl,rfl⟩
      go_wp2_with fail
      go_ret
      refine⟨?_,b6⟩
      first | rfl | (rw [h0];rfl) | (rw [h0,h1];rfl)
 ·skip
  rcases P with _ | _
  ·go_wp2_with fail
   go_ret
   refine⟨?_,b4⟩
   first | rfl | (rw [h0];rfl) | (rw [h0,h1];rfl)
  ·rcases vp with _ | _
   ·skip
    go_wp2_with fail
    refine(PR.out _).mono ?_
    rintro e w5 ⟨rfl,b5⟩
    have X5:=X4.below b5 X4.lt
    have b6:=b4.trans (b5.mono b4.size)
    have k5:w5.cell? ⟨w.heap.size+1,5,none⟩=some (.int .u8 a):=X5.cell 5
    have k6:w5.cell? ⟨w.heap.size+1,6,none⟩=some (.int .u8 b):=X5.cell 6
    clear b5
    go_wp2_with fail
    go_ret
    refine⟨?_,b6⟩
    first | rfl | (rw [h0];rfl) | (rw [h0,h1];rfl)
   ·rcases va with _ | _
    ·skip
     go_wp2_with fail
     refine(PR.out _).mono ?_
     rintro e w5 ⟨rfl,b5⟩
     have X5:=X4.below b5 X4.lt
     have b6:=b4.trans (b5.mono b4.size)
     have k5:w5.cell? ⟨w.heap.size+1,5,none⟩=some (.int .u8 a):=X5.cell 5
     have k6:w5.cell? ⟨w.heap.size+1,6,none⟩=some (.int .u8 b):=X5.cell 6
     clear b5
     go_wp2_with fail
     refine(IA.out _).mono ?_
     rintro e w' ⟨rfl,rfl⟩
     go_wp2_with fail
     go_ret
     refine⟨?_,b6⟩
     first | rfl | (rw [h0];rfl) | (rw [h0,h1];rfl)
    ·skip
     go_wp2_with fail
     refine(PR.out _).mono ?_
     rintro e w5 ⟨rfl,b5⟩
     have X5:=X4.below b5 X4.lt
     have b6:=b4.trans (b5.mono b4.size)
     have k5:w5.cell? ⟨w.heap.size+1,5,none⟩=some (.int .u8 a):=X5.cell 5
     have k6:w5.cell? ⟨w.heap.size+1,6,none⟩=some (.int .u8 b):=X5.cell 6
     clear b5
     go_wp2_with fail
     refine(IA.out _).mono ?_
     rintro e w' ⟨rfl,rfl⟩
     go_wp2_with fail
     refine(IB.out _).mono ?_
     rintro e w' ⟨rfl,rfl⟩
     go_wp2_with fail
     go_ret
     refine⟨?_,b6⟩
     first | rfl | (rw [h0];rfl) | (rw [h0,h1];rfl)
end Go.Proofs.YtoaabebgmdbjeaaGreatDoor
namespace Go.Proofs.YtoaabebgmdbjeaaGreatDoor
open Go.RowKit
theorem KU (q:SN.Rw) (x:Value) (w:World):Calls Tryz.prog 49 #[.agg (rwA x q)] w fun e w'=>e=.returned (.agg #[.int .i64 q.row,.int .i64 q.col,.int .i64 q.pen.1,.int .i64 q.pen.2.1,.int .i64 q.pen.2.2,.int .u8 q.s0,.int .u8 q.s1,.int .i64 q.sh,.bool q.org])/\Below w.heap.size w w':=by
 go_enter Tryz.func49,Tryz.ntmps49
 go_upto_region 1 with (first | (refine BU rfl _ rfl rfl ?_;intro g w1 hB hb1 hg1))
 have k3:=fun o=>(hB.alloc o).c3
 have k4:=fun o=>(hB.alloc o).c4
 have k8:=fun o=>(hB.alloc o).c8
 have k9:=fun o=>(hB.alloc o).c9
 have k10:=fun o=>(hB.alloc o).c10
 have k12:=fun o=>(hB.alloc o).c12
 have k13:=fun o=>(hB.alloc o).c13
 have k14:=fun o=>(hB.alloc o).c14
 have k16:=fun o=>(hB.alloc o).c16
 go_wp2_with fail
 refine bodyPost_ret (v:=.agg #[.int .i64 q.row,.int .i64 q.col,.int .i64 q.pen.1,.int .i64 q.pen.2.1,.int .i64 q.pen.2.2,.int .u8 q.s0,.int .u8 q.s1,.int .i64 q.sh,.bool q.org]) (by simp [results,Tryz.results49,go_sem]) rfl ⟨rfl,hb1.alloc hb1.size _⟩
theorem Tj (q:SN.Rw) (x:Value) (b:Bool) (hb:q.right=b) (hg:PG.BL q.g) (w:World) (h:IsG w q.g (gv q.g.rows q.g.AB x)) (hs:D6 w):
  Calls Tryz.prog 18 #[.agg (rwA x q)] w fun e w'=>e=.returned (.bool b)/\Below w.heap.size w w':=by
 obtain⟨A,cp,rfl⟩:=Ad h
 have hgr:=hg.2.1
 have hgc:=hg.2.2.2.1
 rw [<- SN.Qk] at hb
 obtain⟨vm,hvm⟩: ∃v,SN.OE q=v:=⟨_,rfl⟩
 obtain⟨vn,hvn⟩: ∃v,SN.OG q=v:=⟨_,rfl⟩
 obtain⟨vc,hvc⟩: ∃v,SN.Qj q.g q.row q.col q.pen q.s0 q.s1 q.sh=v:=⟨_,rfl⟩
 obtain⟨vv,hvv⟩: ∃v,SN.Qj q.g q.Du q.Dv q.Ba q.t0 q.t1 q.th=v:=⟨_,rfl⟩
 rw [hvm,hvn,hvc,hvv] at hb
 have MG:=hide (fun w'=>Ti q (.slice A (q.g.rows*q.g.AB) cp) vm hvm (by omega) w')
 have PN:=hide (fun w'=>iR q (.slice A (q.g.rows*q.g.AB) cp) vn hvn (by omega) w')
 have CU:=hide (fun w'=>KU q (.slice A (q.g.rows*q.g.AB) cp) w')
 go_enter Tryz.func18,Tryz.ntmps18
 go_upto_region 1 with (first | (refine BU rfl _ rfl rfl ?_;intro g w1 hB hb1 hg1))
 have HB:=hide hB
 have HW:=hide hb1
 have hg1':=h.low hb1
 have hs1:=hs.keep hb1
 have GR:=hide (fun w' (hb:Below w1.heap.size w1 w')=>(show Calls Tryz.prog 45 #[.agg #[.int .i64 q.g.rows,.int .i64 q.g.AB,.slice A (q.g.rows*q.g.AB) cp]] w' _ from gH hg (hg1'.low hb) (hs1.keep hb)))
 have C1:=hide (fun w' (hb:Below w1.heap.size w1 w')=>(show Calls Tryz.prog 48 #[.agg #[.int .i64 q.g.rows,.int .i64 q.g.AB,.slice A (q.g.rows*q.g.AB) cp],.agg #[.int .i64 q.row,.int .i64 q.col,.int .i64 q.pen.1,.int .i64 q.pen.2.1,.int .i64 q.pen.2.2,.int .u8 q.s0,.int .u8 q.s1,.int .i64 q.sh,.bool q.org]] w' _ from Zm q.g hg _ q.row q.col q.pen q.s0 q.s1 q.sh q.org vc hvc w' (hg1'.low hb)))
 have C2:=hide (fun w' (hb:Below w1.heap.size w1 w')=>(show Calls Tryz.prog 48 #[.agg #[.int .i64 q.g.rows,.int .i64 q.g.AB,.slice A (q.g.rows*q.g.AB) cp],.agg #[.int .i64 q.Du,.int .i64 q.Dv,.int .i64 q.Ba.1,.int .i64 q.Ba.2.1,.int .i64 q.Ba.2.2,.int .u8 q.t0,.int .u8 q.t1,.int .i64 q.th,.bool q.so]] w' _ from Zm q.g hg _ q.Du q.Dv q.Ba q.t0 q.t1 q.th q.so vv hvv w' (hg1'.low hb)))
 clear hB hb1 hg1' hs1 hvm hvn hvc hvv hg h hs
 subst hb
 obtain⟨g2,hg2⟩: ∃g,(vm&&vn)=g:=⟨_,rfl⟩
 obtain⟨g3,hg3⟩: ∃g,(g2&&vc)=g:=⟨_,rfl⟩
 obtain⟨g4,hg4⟩: ∃g,(g3&&vv)=g:=⟨_,rfl⟩
 refine EI (n:=28) [] (fun _=> #[]) [(0,0,0,0,0),(0,0,0,0,0),(0,0,0,0,0),(0,0,0,0,0),(0,0,0,0,0),(0,0,0,0,0),(0,0,0,0,0),(0,0,0,0,0),(0,0,0,0,0),(0,0,0,0,0),(0,0,0,0,0),(0,0,0,0,0),(0,0,0,0,0),(0,0,0,0,0),(0,0,0,0,0),(0,0,0,0,0),(0,0,0,0,0),(0,0,0,0,0),(0,0,0,0,0),(0,0,0,0,0),(0,0,0,0,0),(0,0,0,0,0),(0,0,0,0,0),(0,0,0,0,0),(0,0,0,0,0),(0,0,0,0,0)] (fun j=> [(.pointer (some ⟨g,0,none⟩)),(.agg #[.int .i64 q.g.rows,.int .i64 q.g.AB,.slice A (q.g.rows*q.g.AB) cp]),(.bool true),(.bool true),(.agg (rwA (.slice A (q.g.rows*q.g.AB) cp) q)),(.bool vm),(.bool vm),(.bool vm),cond vm (.agg (rwA (.slice A (q.g.rows*q.g.AB) cp) q)) undef,cond vm (.bool vn) undef,(.bool g2),(.bool g2),cond g2 (.pointer (some ⟨g,0,none⟩)) undef,cond g2 (.agg #[.int .i64 q.g.rows,.int .i64 q.g.AB,.slice A (q.g.rows*q.g.AB) cp]) undef,cond g2 (.agg (rwA (.slice A (q.g.rows*q.g.AB) cp) q)) undef,cond g2 (.agg #[.int .i64 q.row,.int .i64 q.col,.int .i64 q.pen.1,.int .i64 q.pen.2.1,.int .i64 q.pen.2.2,.int .u8 q.s0,.int .u8 q.s1,.int .i64 q.sh,.bool q.org]) undef,cond g2 (.bool vc) undef,(.bool g3),(.bool g3),cond g3 (.pointer (some ⟨g,0,none⟩)) undef,cond g3 (.agg #[.int .i64 q.g.rows,.int .i64 q.g.AB,.slice A (q.g.rows*q.g.AB) cp]) undef,cond g3 (.pointer (some ⟨g,20,none⟩)) undef,cond g3 (.agg #[.int .i64 q.Du,.int .i64 q.Dv,.int .i64 q.Ba.1,.int .i64 q.Ba.2.1,.int .i64 q.Ba.2.2,.int .u8 q.t0,.int .u8 q.t1,.int .i64 q.th,.bool q.so]) undef,cond g3 (.bool vv) undef,(.bool g4),(.bool g4)].getD j undef) [] (fun _=>0) (by kernel_rfl) (by kernel_rfl) (by kernel_rfl) rfl (by kernel_rfl) (Dt rfl) (fun i j h=>by revert h;exact Dt (p:=fun _=>_) rfl i) (Aj.nil _) (fun hGS=>UZ ⟨?_,?_,?_,?_,?_,?_,?_,?_,?_,?_,?_,?_,?_,?_,?_,?_,?_,?_,?_,?_,?_,?_,?_,?_,?_,?_⟩) ?_
 ·intro L a w' hL hsame hsz hJ AJ hcl
  refine BG hJ hGS hcl hL 1 (.pointer (some ⟨g,0,none⟩)) (.pointer (some ⟨g,0,none⟩)) (AY hsame (by kernel_rfl)) _ rfl rfl rfl rfl rfl fun ρ _ e0=>?_
  clear hJ hsame AJ hcl hsz
  go_simp
 ·intro L a w' hL hsame hsz hJ AJ hcl
  have hx:=hJ.Ah (HB.out) (by simp)
  have q0:w'.cell? ⟨g,0,none⟩=some (.int .i64 q.g.rows):=hx.cell 0
  have q1:w'.cell? ⟨g,1,none⟩=some (.int .i64 q.g.AB):=hx.cell 1
  have q2:w'.cell? ⟨g,2,none⟩=some (.slice A (q.g.rows*q.g.AB) cp):=hx.cell 2
  refine BG hJ hGS hcl hL 3 (.pointer (some ⟨g,0,none⟩)) (.agg #[.int .i64 q.g.rows,.int .i64 q.g.AB,.slice A (q.g.rows*q.g.AB) cp]) (gslot hJ AJ 0 (by kernel_rfl) (by kernel_rfl) (by decide) rfl rfl) _ rfl rfl rfl rfl rfl fun ρ _ e0=>?_
  clear hJ hsame AJ hcl hsz hx
  go_simp
 ·intro L a w' hL hsame hsz hJ AJ hcl
  have hb:=hJ.kept.toBelow (Nat.le_refl _) (by simp)
  have e0:a.eval (.tmp 4)=(.agg #[.int .i64 q.g.rows,.int .i64 q.g.AB,.slice A (q.g.rows*q.g.AB) cp]):=AU (j:=1) (by kernel_rfl) (hJ.valOf (by decide) (AZ AJ 1 (by kernel_rfl)) rfl rfl)
  refine Step.call _ rfl rfl (AV rfl) 45 #[.agg #[.int .i64 q.g.rows,.int .i64 q.g.AB,.slice A (q.g.rows*q.g.AB) cp]] (fun ρ hρ=>?_) ?_
  ·skip
   rw [hρ] at e0
   have ef:ρ (.func 45)=.func (.func 45) #[] #[] :=(hρ _).symm
   clear hJ hsame AJ hcl hρ hsz hb
   go_simp
  ·refine(GR.out _ hb).mono ?_
   rintro e w2 ⟨rfl,bb⟩
   exact⟨_,rfl,hJ.val hGS hcl hL rfl bb _ rfl⟩
 ·intro L a w' hL hsame hsz hJ AJ hcl
  refine BG hJ hGS hcl hL 5 (.bool true) (.bool true) (gslot hJ AJ 2 (by kernel_rfl) (by kernel_rfl) (by decide) rfl rfl) _ rfl rfl rfl rfl rfl fun ρ _ e0=>?_
  clear hJ hsame AJ hcl hsz
  go_simp
 ·intro L a w' hL hsame hsz hJ AJ hcl
  have gd:valOf _ 3 a=.bool true:=hJ.valOf (by decide) (AZ AJ 3 (by kernel_rfl)) rfl rfl
  have hb:=hJ.kept.toBelow (Nat.le_refl _) (by simp)
  have e0:a.eval (.tmp 1)=(.pointer (some ⟨g,0,none⟩)):=AY hsame (by kernel_rfl)
  have hx:=hJ.Ah (HB.out) (by simp)
  exact Step.val _ rfl rfl (BK (g:=3) (b:=true) rfl gd) (.agg (rwA (.slice A (q.g.rows*q.g.AB) cp) q)) w' (fun ρ hρ=>Aq hx rfl ρ _ rfl ((hρ _).symm.trans e0)) (hJ.val hGS hcl hL rfl (Below.refl _ _) _ rfl)
 ·intro L a w' hL hsame hsz hJ AJ hcl
  have gd:valOf _ 3 a=.bool true:=hJ.valOf (by decide) (AZ AJ 3 (by kernel_rfl)) rfl rfl
  have hb:=hJ.kept.toBelow (Nat.le_refl _) (by simp)
  have e0:a.eval (.tmp 7)=(.agg (rwA (.slice A (q.g.rows*q.g.AB) cp) q)):=AU (j:=4) (by kernel_rfl) (hJ.valOf (by decide) (AZ AJ 4 (by kernel_rfl)) rfl rfl)
  refine Step.call _ rfl rfl (BK (g:=3) (b:=true) rfl gd) 46 #[.agg (rwA (.slice A (q.g.rows*q.g.AB) cp) q)] (fun ρ hρ=>?_) ?_
  ·skip
   rw [hρ] at e0
   have ef:ρ (.func 46)=.func (.func 46) #[] #[] :=(hρ _).symm
   clear hJ hsame AJ hcl hρ hsz hb gd
   go_simp
  ·refine(MG.out _).mono ?_
   rintro e w2 ⟨rfl,bb⟩
   exact⟨_,rfl,hJ.val hGS hcl hL rfl bb _ rfl⟩
 ·intro L a w' hL hsame hsz hJ AJ hcl
  refine JD hJ hGS hcl hL 6 8 (.bool true) (.bool vm) (.bool vm) (gslot hJ AJ 3 (by kernel_rfl) (by kernel_rfl) (by decide) rfl rfl) (gslot hJ AJ 5 (by kernel_rfl) (by kernel_rfl) (by decide) rfl rfl) _ rfl rfl rfl rfl rfl fun ρ hc e0 e1=>?_
  have ec0:=hc (.bool false)
  clear hJ hsame AJ hcl hsz
  go_simp
 ·intro L a w' hL hsame hsz hJ AJ hcl
  refine BG hJ hGS hcl hL 9 (.bool vm) (.bool vm) (gslot hJ AJ 6 (by kernel_rfl) (by kernel_rfl) (by decide) rfl rfl) _ rfl rfl rfl rfl rfl fun ρ _ e0=>?_
  clear hJ hsame AJ hcl hsz
  go_simp
 ·intro L a w' hL hsame hsz hJ AJ hcl
  cases vm
  ·skip
   have gd:valOf _ 7 a=.bool false:=hJ.valOf (by decide) (AZ AJ 7 (by kernel_rfl)) rfl rfl
   exact GStep.pass _ rfl (CY (g:=7) (b:=true) (c:=false) rfl gd (by decide)) (hJ.val hGS hcl hL rfl (Below.refl _ _) _ rfl)
  ·skip
   have gd:valOf _ 7 a=.bool true:=hJ.valOf (by decide) (AZ AJ 7 (by kernel_rfl)) rfl rfl
   have hb:=hJ.kept.toBelow (Nat.le_refl _) (by simp)
   have e0:a.eval (.tmp 1)=(.pointer (some ⟨g,0,none⟩)):=AY hsame (by kernel_rfl)
   have hx:=hJ.Ah (HB.out) (by simp)
   exact Step.val _ rfl rfl (BK (g:=7) (b:=true) rfl gd) (.agg (rwA (.slice A (q.g.rows*q.g.AB) cp) q)) w' (fun ρ hρ=>Aq hx rfl ρ _ rfl ((hρ _).symm.trans e0)) (hJ.val hGS hcl hL rfl (Below.refl _ _) _ rfl)
 ·intro L a w' hL hsame hsz hJ AJ hcl
  cases vm
  ·skip
   have gd:valOf _ 7 a=.bool false:=hJ.valOf (by decide) (AZ AJ 7 (by kernel_rfl)) rfl rfl
   exact GStep.pass _ rfl (CY (g:=7) (b:=true) (c:=false) rfl gd (by decide)) (hJ.val hGS hcl hL rfl (Below.refl _ _) _ rfl)
  ·skip
   have gd:valOf _ 7 a=.bool true:=hJ.valOf (by decide) (AZ AJ 7 (by kernel_rfl)) rfl rfl
   have hb:=hJ.kept.toBelow (Nat.le_refl _) (by simp)
   have e0:a.eval (.tmp 11)=(.agg (rwA (.slice A (q.g.rows*q.g.AB) cp) q)):=AU (j:=8) (by kernel_rfl) (hJ.valOf (by decide) (AZ AJ 8 (by kernel_rfl)) rfl rfl)
   refine Step.call _ rfl rfl (BK (g:=7) (b:=true) rfl gd) 47 #[.agg (rwA (.slice A (q.g.rows*q.g.AB) cp) q)] (fun ρ hρ=>?_) ?_
   ·skip
    rw [hρ] at e0
    have ef:ρ (.func 47)=.func (.func 47) #[] #[] :=(hρ _).symm
    clear hJ hsame AJ hcl hρ hsz hb gd
    go_simp
   ·refine(PN.out _).mono ?_
    rintro e w2 ⟨rfl,bb⟩
    exact⟨_,rfl,hJ.val hGS hcl hL rfl bb _ rfl⟩
 ·intro L a w' hL hsame hsz hJ AJ hcl
  cases vm
  ·skip
   have hb:=hJ.kept.toBelow (Nat.le_refl _) (by simp)
   have e0:a.eval (.tmp 10)=(.bool false):=AU (j:=7) (by kernel_rfl) (hJ.valOf (by decide) (AZ AJ 7 (by kernel_rfl)) rfl rfl)
   have e1:a.eval (.tmp 12)=undef:=AU (j:=9) (by kernel_rfl) (hJ.valOf (by decide) (AZ AJ 9 (by kernel_rfl)) rfl rfl)
   refine Step.val _ rfl rfl (AV rfl) (.bool g2) w' (fun ρ hρ=>?_) (hJ.val hGS hcl hL rfl (Below.refl _ _) _ rfl)
   rw [hρ] at e0 e1
   have ec0:ρ (.const (.bool false))=(.bool false):=(hρ _).symm
   subst hg2
   clear hJ hsame AJ hcl hρ hsz hb
   go_simp
  ·skip
   have hb:=hJ.kept.toBelow (Nat.le_refl _) (by simp)
   have e0:a.eval (.tmp 10)=(.bool true):=AU (j:=7) (by kernel_rfl) (hJ.valOf (by decide) (AZ AJ 7 (by kernel_rfl)) rfl rfl)
   have e1:a.eval (.tmp 12)=(.bool vn):=AU (j:=9) (by kernel_rfl) (hJ.valOf (by decide) (AZ AJ 9 (by kernel_rfl)) rfl rfl)
   refine Step.val _ rfl rfl (AV rfl) (.bool g2) w' (fun ρ hρ=>?_) (hJ.val hGS hcl hL rfl (Below.refl _ _) _ rfl)
   rw [hρ] at e0 e1
   have ec0:ρ (.const (.bool false))=(.bool false):=(hρ _).symm
   subst hg2
   clear hJ hsame AJ hcl hρ hsz hb
   go_simp
 ·intro L a w' hL hsame hsz hJ AJ hcl
  refine BG hJ hGS hcl hL 13 (.bool g2) (.bool g2) (gslot hJ AJ 10 (by kernel_rfl) (by kernel_rfl) (by decide) rfl rfl) _ rfl rfl rfl rfl rfl fun ρ _ e0=>?_
  clear hJ hsame AJ hcl hsz
  go_simp
 ·intro L a w' hL hsame hsz hJ AJ hcl
  cases g2
  ·skip
   have gd:valOf _ 11 a=.bool false:=hJ.valOf (by decide) (AZ AJ 11 (by kernel_rfl)) rfl rfl
   exact GStep.pass _ rfl (CY (g:=11) (b:=true) (c:=false) rfl gd (by decide)) (hJ.val hGS hcl hL rfl (Below.refl _ _) _ rfl)
  ·skip
   have gd:valOf _ 11 a=.bool true:=hJ.valOf (by decide) (AZ AJ 11 (by kernel_rfl)) rfl rfl
   have hb:=hJ.kept.toBelow (Nat.le_refl _) (by simp)
   have e0:a.eval (.tmp 1)=(.pointer (some ⟨g,0,none⟩)):=AY hsame (by kernel_rfl)
   refine Step.val _ rfl rfl (BK (g:=11) (b:=true) rfl gd) (.pointer (some ⟨g,0,none⟩)) w' (fun ρ hρ=>?_) (hJ.val hGS hcl hL rfl (Below.refl _ _) _ rfl)
   rw [hρ] at e0
   clear hJ hsame AJ hcl hρ hsz hb gd
   go_simp
 ·intro L a w' hL hsame hsz hJ AJ hcl
  cases g2
  ·skip
   have gd:valOf _ 11 a=.bool false:=hJ.valOf (by decide) (AZ AJ 11 (by kernel_rfl)) rfl rfl
   exact GStep.pass _ rfl (CY (g:=11) (b:=true) (c:=false) rfl gd (by decide)) (hJ.val hGS hcl hL rfl (Below.refl _ _) _ rfl)
  ·skip
   have gd:valOf _ 11 a=.bool true:=hJ.valOf (by decide) (AZ AJ 11 (by kernel_rfl)) rfl rfl
   have hb:=hJ.kept.toBelow (Nat.le_refl _) (by simp)
   have e0:a.eval (.tmp 15)=(.pointer (some ⟨g,0,none⟩)):=AU (j:=12) (by kernel_rfl) (hJ.valOf (by decide) (AZ AJ 12 (by kernel_rfl)) rfl rfl)
   have hx:=hJ.Ah (HB.out) (by simp)
   have q0:w'.cell? ⟨g,0,none⟩=some (.int .i64 q.g.rows):=hx.cell 0
   have q1:w'.cell? ⟨g,1,none⟩=some (.int .i64 q.g.AB):=hx.cell 1
   have q2:w'.cell? ⟨g,2,none⟩=some (.slice A (q.g.rows*q.g.AB) cp):=hx.cell 2
   refine Step.val _ rfl rfl (BK (g:=11) (b:=true) rfl gd) (.agg #[.int .i64 q.g.rows,.int .i64 q.g.AB,.slice A (q.g.rows*q.g.AB) cp]) w' (fun ρ hρ=>?_) (hJ.val hGS hcl hL rfl (Below.refl _ _) _ rfl)
   clear hx
   rw [hρ] at e0
   clear hJ hsame AJ hcl hρ hsz hb gd
   go_simp
 ·intro L a w' hL hsame hsz hJ AJ hcl
  cases g2
  ·skip
   have gd:valOf _ 11 a=.bool false:=hJ.valOf (by decide) (AZ AJ 11 (by kernel_rfl)) rfl rfl
   exact GStep.pass _ rfl (CY (g:=11) (b:=true) (c:=false) rfl gd (by decide)) (hJ.val hGS hcl hL rfl (Below.refl _ _) _ rfl)
  ·skip
   have gd:valOf _ 11 a=.bool true:=hJ.valOf (by decide) (AZ AJ 11 (by kernel_rfl)) rfl rfl
   have hb:=hJ.kept.toBelow (Nat.le_refl _) (by simp)
   have e0:a.eval (.tmp 1)=(.pointer (some ⟨g,0,none⟩)):=AY hsame (by kernel_rfl)
   have hx:=hJ.Ah (HB.out) (by simp)
   exact Step.val _ rfl rfl (BK (g:=11) (b:=true) rfl gd) (.agg (rwA (.slice A (q.g.rows*q.g.AB) cp) q)) w' (fun ρ hρ=>Aq hx rfl ρ _ rfl ((hρ _).symm.trans e0)) (hJ.val hGS hcl hL rfl (Below.refl _ _) _ rfl)
 ·intro L a w' hL hsame hsz hJ AJ hcl
  cases g2
  ·skip
   have gd:valOf _ 11 a=.bool false:=hJ.valOf (by decide) (AZ AJ 11 (by kernel_rfl)) rfl rfl
   exact GStep.pass _ rfl (CY (g:=11) (b:=true) (c:=false) rfl gd (by decide)) (hJ.val hGS hcl hL rfl (Below.refl _ _) _ rfl)
  ·skip
   have gd:valOf _ 11 a=.bool true:=hJ.valOf (by decide) (AZ AJ 11 (by kernel_rfl)) rfl rfl
   have hb:=hJ.kept.toBelow (Nat.le_refl _) (by simp)
   have e0:a.eval (.tmp 17)=(.agg (rwA (.slice A (q.g.rows*q.g.AB) cp) q)):=AU (j:=14) (by kernel_rfl) (hJ.valOf (by decide) (AZ AJ 14 (by kernel_rfl)) rfl rfl)
   refine Step.call _ rfl rfl (BK (g:=11) (b:=true) rfl gd) 49 #[.agg (rwA (.slice A (q.g.rows*q.g.AB) cp) q)] (fun ρ hρ=>?_) ?_
   ·skip
    rw [hρ] at e0
    have ef:ρ (.func 49)=.func (.func 49) #[] #[] :=(hρ _).symm
    clear hJ hsame AJ hcl hρ hsz hb gd
    go_simp
   ·refine(CU.out _).mono ?_
    rintro e w2 ⟨rfl,bb⟩
    exact⟨_,rfl,hJ.val hGS hcl hL rfl bb _ rfl⟩
 ·intro L a w' hL hsame hsz hJ AJ hcl
  cases g2
  ·skip
   have gd:valOf _ 11 a=.bool false:=hJ.valOf (by decide) (AZ AJ 11 (by kernel_rfl)) rfl rfl
   exact GStep.pass _ rfl (CY (g:=11) (b:=true) (c:=false) rfl gd (by decide)) (hJ.val hGS hcl hL rfl (Below.refl _ _) _ rfl)
  ·skip
   have gd:valOf _ 11 a=.bool true:=hJ.valOf (by decide) (AZ AJ 11 (by kernel_rfl)) rfl rfl
   have hb:=hJ.kept.toBelow (Nat.le_refl _) (by simp)
   have e0:a.eval (.tmp 16)=(.agg #[.int .i64 q.g.rows,.int .i64 q.g.AB,.slice A (q.g.rows*q.g.AB) cp]):=AU (j:=13) (by kernel_rfl) (hJ.valOf (by decide) (AZ AJ 13 (by kernel_rfl)) rfl rfl)
   have e1:a.eval (.tmp 18)=(.agg #[.int .i64 q.row,.int .i64 q.col,.int .i64 q.pen.1,.int .i64 q.pen.2.1,.int .i64 q.pen.2.2,.int .u8 q.s0,.int .u8 q.s1,.int .i64 q.sh,.bool q.org]):=AU (j:=15) (by kernel_rfl) (hJ.valOf (by decide) (AZ AJ 15 (by kernel_rfl)) rfl rfl)
   refine Step.call _ rfl rfl (BK (g:=11) (b:=true) rfl gd) 48 #[.agg #[.int .i64 q.g.rows,.int .i64 q.g.AB,.slice A (q.g.rows*q.g.AB) cp],.agg #[.int .i64 q.row,.int .i64 q.col,.int .i64 q.pen.1,.int .i64 q.pen.2.1,.int .i64 q.pen.2.2,.int .u8 q.s0,.int .u8 q.s1,.int .i64 q.sh,.bool q.org]] (fun ρ hρ=>?_) ?_
   ·skip
    rw [hρ] at e0 e1
    have ef:ρ (.func 48)=.func (.func 48) #[] #[] :=(hρ _).symm
    clear hJ hsame AJ hcl hρ hsz hb gd
    go_simp
   ·refine(C1.out _ hb).mono ?_
    rintro e w2 ⟨rfl,bb⟩
    exact⟨_,rfl,hJ.val hGS hcl hL rfl bb _ rfl⟩
 ·intro L a w' hL hsame hsz hJ AJ hcl
  cases g2
  ·skip
   have hb:=hJ.kept.toBelow (Nat.le_refl _) (by simp)
   have e0:a.eval (.tmp 14)=(.bool false):=AU (j:=11) (by kernel_rfl) (hJ.valOf (by decide) (AZ AJ 11 (by kernel_rfl)) rfl rfl)
   have e1:a.eval (.tmp 19)=undef:=AU (j:=16) (by kernel_rfl) (hJ.valOf (by decide) (AZ AJ 16 (by kernel_rfl)) rfl rfl)
   refine Step.val _ rfl rfl (AV rfl) (.bool g3) w' (fun ρ hρ=>?_) (hJ.val hGS hcl hL rfl (Below.refl _ _) _ rfl)
   rw [hρ] at e0 e1
   have ec0:ρ (.const (.bool false))=(.bool false):=(hρ _).symm
   subst hg3
   clear hJ hsame AJ hcl hρ hsz hb
   go_simp
  ·skip
   have hb:=hJ.kept.toBelow (Nat.le_refl _) (by simp)
   have e0:a.eval (.tmp 14)=(.bool true):=AU (j:=11) (by kernel_rfl) (hJ.valOf (by decide) (AZ AJ 11 (by kernel_rfl)) rfl rfl)
   have e1:a.eval (.tmp 19)=(.bool vc):=AU (j:=16) (by kernel_rfl) (hJ.valOf (by decide) (AZ AJ 16 (by kernel_rfl)) rfl rfl)
   refine Step.val _ rfl rfl (AV rfl) (.bool g3) w' (fun ρ hρ=>?_) (hJ.val hGS hcl hL rfl (Below.refl _ _) _ rfl)
   rw [hρ] at e0 e1
   have ec0:ρ (.const (.bool false))=(.bool false):=(hρ _).symm
   subst hg3
   clear hJ hsame AJ hcl hρ hsz hb
   go_simp
 ·intro L a w' hL hsame hsz hJ AJ hcl
  refine BG hJ hGS hcl hL 20 (.bool g3) (.bool g3) (gslot hJ AJ 17 (by kernel_rfl) (by kernel_rfl) (by decide) rfl rfl) _ rfl rfl rfl rfl rfl fun ρ _ e0=>?_
  clear hJ hsame AJ hcl hsz
  go_simp
 ·intro L a w' hL hsame hsz hJ AJ hcl
  cases g3
  ·skip
   have gd:valOf _ 18 a=.bool false:=hJ.valOf (by decide) (AZ AJ 18 (by kernel_rfl)) rfl rfl
   exact GStep.pass _ rfl (CY (g:=18) (b:=true) (c:=false) rfl gd (by decide)) (hJ.val hGS hcl hL rfl (Below.refl _ _) _ rfl)
  ·skip
   have gd:valOf _ 18 a=.bool true:=hJ.valOf (by decide) (AZ AJ 18 (by kernel_rfl)) rfl rfl
   have hb:=hJ.kept.toBelow (Nat.le_refl _) (by simp)
   have e0:a.eval (.tmp 1)=(.pointer (some ⟨g,0,none⟩)):=AY hsame (by kernel_rfl)
   refine Step.val _ rfl rfl (BK (g:=18) (b:=true) rfl gd) (.pointer (some ⟨g,0,none⟩)) w' (fun ρ hρ=>?_) (hJ.val hGS hcl hL rfl (Below.refl _ _) _ rfl)
   rw [hρ] at e0
   clear hJ hsame AJ hcl hρ hsz hb gd
   go_simp
 ·intro L a w' hL hsame hsz hJ AJ hcl
  cases g3
  ·skip
   have gd:valOf _ 18 a=.bool false:=hJ.valOf (by decide) (AZ AJ 18 (by kernel_rfl)) rfl rfl
   exact GStep.pass _ rfl (CY (g:=18) (b:=true) (c:=false) rfl gd (by decide)) (hJ.val hGS hcl hL rfl (Below.refl _ _) _ rfl)
  ·skip
   have gd:valOf _ 18 a=.bool true:=hJ.valOf (by decide) (AZ AJ 18 (by kernel_rfl)) rfl rfl
   have hb:=hJ.kept.toBelow (Nat.le_refl _) (by simp)
   have e0:a.eval (.tmp 22)=(.pointer (some ⟨g,0,none⟩)):=AU (j:=19) (by kernel_rfl) (hJ.valOf (by decide) (AZ AJ 19 (by kernel_rfl)) rfl rfl)
   have hx:=hJ.Ah (HB.out) (by simp)
   have q0:w'.cell? ⟨g,0,none⟩=some (.int .i64 q.g.rows):=hx.cell 0
   have q1:w'.cell? ⟨g,1,none⟩=some (.int .i64 q.g.AB):=hx.cell 1
   have q2:w'.cell? ⟨g,2,none⟩=some (.slice A (q.g.rows*q.g.AB) cp):=hx.cell 2
   refine Step.val _ rfl rfl (BK (g:=18) (b:=true) rfl gd) (.agg #[.int .i64 q.g.rows,.int .i64 q.g.AB,.slice A (q.g.rows*q.g.AB) cp]) w' (fun ρ hρ=>?_) (hJ.val hGS hcl hL rfl (Below.refl _ _) _ rfl)
   clear hx
   rw [hρ] at e0
   clear hJ hsame AJ hcl hρ hsz hb gd
   go_simp
 ·intro L a w' hL hsame hsz hJ AJ hcl
  cases g3
  ·skip
   have gd:valOf _ 18 a=.bool false:=hJ.valOf (by decide) (AZ AJ 18 (by kernel_rfl)) rfl rfl
   exact GStep.pass _ rfl (CY (g:=18) (b:=true) (c:=false) rfl gd (by decide)) (hJ.val hGS hcl hL rfl (Below.refl _ _) _ rfl)
  ·skip
   have gd:valOf _ 18 a=.bool true:=hJ.valOf (by decide) (AZ AJ 18 (by kernel_rfl)) rfl rfl
   have hb:=hJ.kept.toBelow (Nat.le_refl _) (by simp)
   have e0:a.eval (.tmp 1)=(.pointer (some ⟨g,0,none⟩)):=AY hsame (by kernel_rfl)
   refine Step.val _ rfl rfl (BK (g:=18) (b:=true) rfl gd) (.pointer (some ⟨g,20,none⟩)) w' (fun ρ hρ=>?_) (hJ.val hGS hcl hL rfl (Below.refl _ _) _ rfl)
   rw [hρ] at e0
   clear hJ hsame AJ hcl hρ hsz hb gd
   go_simp
 ·intro L a w' hL hsame hsz hJ AJ hcl
  cases g3
  ·skip
   have gd:valOf _ 18 a=.bool false:=hJ.valOf (by decide) (AZ AJ 18 (by kernel_rfl)) rfl rfl
   exact GStep.pass _ rfl (CY (g:=18) (b:=true) (c:=false) rfl gd (by decide)) (hJ.val hGS hcl hL rfl (Below.refl _ _) _ rfl)
  ·skip
   have gd:valOf _ 18 a=.bool true:=hJ.valOf (by decide) (AZ AJ 18 (by kernel_rfl)) rfl rfl
   have hb:=hJ.kept.toBelow (Nat.le_refl _) (by simp)
   have e0:a.eval (.tmp 24)=(.pointer (some ⟨g,20,none⟩)):=AU (j:=21) (by kernel_rfl) (hJ.valOf (by decide) (AZ AJ 21 (by kernel_rfl)) rfl rfl)
   have hx:=hJ.Ah (HB.out) (by simp)
   have q0:w'.cell? ⟨g,20,none⟩=some (.int .i64 q.Du):=hx.cell 20
   have q1:w'.cell? ⟨g,21,none⟩=some (.int .i64 q.Dv):=hx.cell 21
   have q2:w'.cell? ⟨g,22,none⟩=some (.int .i64 q.Ba.1):=hx.cell 22
   have q3:w'.cell? ⟨g,23,none⟩=some (.int .i64 q.Ba.2.1):=hx.cell 23
   have q4:w'.cell? ⟨g,24,none⟩=some (.int .i64 q.Ba.2.2):=hx.cell 24
   have q5:w'.cell? ⟨g,25,none⟩=some (.int .u8 q.t0):=hx.cell 25
   have q6:w'.cell? ⟨g,26,none⟩=some (.int .u8 q.t1):=hx.cell 26
   have q7:w'.cell? ⟨g,27,none⟩=some (.int .i64 q.th):=hx.cell 27
   have q8:w'.cell? ⟨g,28,none⟩=some (.bool q.so):=hx.cell 28
   refine Step.val _ rfl rfl (BK (g:=18) (b:=true) rfl gd) (.agg #[.int .i64 q.Du,.int .i64 q.Dv,.int .i64 q.Ba.1,.int .i64 q.Ba.2.1,.int .i64 q.Ba.2.2,.int .u8 q.t0,.int .u8 q.t1,.int .i64 q.th,.bool q.so]) w' (fun ρ hρ=>?_) (hJ.val hGS hcl hL rfl (Below.refl _ _) _ rfl)
   clear hx
   rw [hρ] at e0
   clear hJ hsame AJ hcl hρ hsz hb gd
   go_simp
 ·intro L a w' hL hsame hsz hJ AJ hcl
  cases g3
  ·skip
   have gd:valOf _ 18 a=.bool false:=hJ.valOf (by decide) (AZ AJ 18 (by kernel_rfl)) rfl rfl
   exact GStep.pass _ rfl (CY (g:=18) (b:=true) (c:=false) rfl gd (by decide)) (hJ.val hGS hcl hL rfl (Below.refl _ _) _ rfl)
  ·skip
   have gd:valOf _ 18 a=.bool true:=hJ.valOf (by decide) (AZ AJ 18 (by kernel_rfl)) rfl rfl
   have hb:=hJ.kept.toBelow (Nat.le_refl _) (by simp)
   have e0:a.eval (.tmp 23)=(.agg #[.int .i64 q.g.rows,.int .i64 q.g.AB,.slice A (q.g.rows*q.g.AB) cp]):=AU (j:=20) (by kernel_rfl) (hJ.valOf (by decide) (AZ AJ 20 (by kernel_rfl)) rfl rfl)
   have e1:a.eval (.tmp 25)=(.agg #[.int .i64 q.Du,.int .i64 q.Dv,.int .i64 q.Ba.1,.int .i64 q.Ba.2.1,.int .i64 q.Ba.2.2,.int .u8 q.t0,.int .u8 q.t1,.int .i64 q.th,.bool q.so]):=AU (j:=22) (by kernel_rfl) (hJ.valOf (by decide) (AZ AJ 22 (by kernel_rfl)) rfl rfl)
   refine Step.call _ rfl rfl (BK (g:=18) (b:=true) rfl gd) 48 #[.agg #[.int .i64 q.g.rows,.int .i64 q.g.AB,.slice A (q.g.rows*q.g.AB) cp],.agg #[.int .i64 q.Du,.int .i64 q.Dv,.int .i64 q.Ba.1,.int .i64 q.Ba.2.1,.int .i64 q.Ba.2.2,.int .u8 q.t0,.int .u8 q.t1,.int .i64 q.th,.bool q.so]] (fun ρ hρ=>?_) ?_
   ·skip
    rw [hρ] at e0 e1
    have ef:ρ (.func 48)=.func (.func 48) #[] #[] :=(hρ _).symm
    clear hJ hsame AJ hcl hρ hsz hb gd
    go_simp
   ·refine(C2.out _ hb).mono ?_
    rintro e w2 ⟨rfl,bb⟩
    exact⟨_,rfl,hJ.val hGS hcl hL rfl bb _ rfl⟩
 ·intro L a w' hL hsame hsz hJ AJ hcl
  cases g3
  ·skip
   have hb:=hJ.kept.toBelow (Nat.le_refl _) (by simp)
   have e0:a.eval (.tmp 21)=(.bool false):=AU (j:=18) (by kernel_rfl) (hJ.valOf (by decide) (AZ AJ 18 (by kernel_rfl)) rfl rfl)
   have e1:a.eval (.tmp 26)=undef:=AU (j:=23) (by kernel_rfl) (hJ.valOf (by decide) (AZ AJ 23 (by kernel_rfl)) rfl rfl)
   refine Step.val _ rfl rfl (AV rfl) (.bool g4) w' (fun ρ hρ=>?_) (hJ.val hGS hcl hL rfl (Below.refl _ _) _ rfl)
   rw [hρ] at e0 e1
   have ec0:ρ (.const (.bool false))=(.bool false):=(hρ _).symm
   subst hg4
   clear hJ hsame AJ hcl hρ hsz hb
   go_simp
  ·skip
   have hb:=hJ.kept.toBelow (Nat.le_refl _) (by simp)
   have e0:a.eval (.tmp 21)=(.bool true):=AU (j:=18) (by kernel_rfl) (hJ.valOf (by decide) (AZ AJ 18 (by kernel_rfl)) rfl rfl)
   have e1:a.eval (.tmp 26)=(.bool vv):=AU (j:=23) (by kernel_rfl) (hJ.valOf (by decide) (AZ AJ 23 (by kernel_rfl)) rfl rfl)
   refine Step.val _ rfl rfl (AV rfl) (.bool g4) w' (fun ρ hρ=>?_) (hJ.val hGS hcl hL rfl (Below.refl _ _) _ rfl)
   rw [hρ] at e0 e1
   have ec0:ρ (.const (.bool false))=(.bool false):=(hρ _).symm
   subst hg4
   clear hJ hsame AJ hcl hρ hsz hb
   go_simp
 ·intro L a w' hL hsame hsz hJ AJ hcl
  refine BG hJ hGS hcl hL 27 (.bool g4) (.bool g4) (gslot hJ AJ 24 (by kernel_rfl) (by kernel_rfl) (by decide) rfl rfl) _ rfl rfl rfl rfl rfl fun ρ _ e0=>?_
  clear hJ hsame AJ hcl hsz
  go_simp
 ·intro u w' hF
  change Exit.then _ _ Exit.normal (Act.put (Act.put (Act.put (Act.put (Act.put (Act.put (Act.put (Act.put (Act.put (Act.put (Act.put (Act.put (Act.put (Act.put (Act.put (Act.put (Act.put (Act.put (Act.put (Act.put (Act.put (Act.put (Act.put (Act.put (Act.put (Act.put (Az _ u 0 _) (some 3) (u 0)) (some 4) (u 1)) (some 5) (u 2)) (some 6) (u 3)) (some 7) (u 4)) (some 8) (u 5)) (some 9) (u 6)) (some 10) (u 7)) (some 11) (u 8)) (some 12) (u 9)) (some 13) (u 10)) (some 14) (u 11)) (some 15) (u 12)) (some 16) (u 13)) (some 17) (u 14)) (some 18) (u 15)) (some 19) (u 16)) (some 20) (u 17)) (some 21) (u 18)) (some 22) (u 19)) (some 23) (u 20)) (some 24) (u 21)) (some 25) (u 22)) (some 26) (u 23)) (some 27) (u 24)) (some 2) (u 25)) _
  simp only [Az]
  have f:u 25=.bool g4:=hF.Pz (j:=25) (by decide) rfl rfl
  have hk:=hF.kept.toBelow (Nat.le_refl _) (by simp)
  clear hF
  generalize u 0=z0
  generalize u 1=z1
  generalize u 2=z2
  generalize u 3=z3
  generalize u 4=z4
  generalize u 5=z5
  generalize u 6=z6
  generalize u 7=z7
  generalize u 8=z8
  generalize u 9=z9
  generalize u 10=z10
  generalize u 11=z11
  generalize u 12=z12
  generalize u 13=z13
  generalize u 14=z14
  generalize u 15=z15
  generalize u 16=z16
  generalize u 17=z17
  generalize u 18=z18
  generalize u 19=z19
  generalize u 20=z20
  generalize u 21=z21
  generalize u 22=z22
  generalize u 23=z23
  generalize u 24=z24
  generalize u 25=z25 at f⊢
  subst f
  go_simp
  go_step
  refine wp_ret ?_
  (try simp only [Exit.then,Exit.inBlock])
  refine bodyPost_ret (v:=.bool g4) (by simp [results,Tryz.results18,go_sem]) rfl ⟨?_,HW.out.trans (hk.mono HW.out.size)⟩
  subst hg2 hg3 hg4
  simp only [Bool.and_assoc]
end Go.Proofs.YtoaabebgmdbjeaaGreatDoor
