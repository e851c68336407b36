/- A part of the proof: ScreenEq, ScreenYes. -/
import Derived.Test.YtoaabebgmdbjeaaGreatDoorRq08
set_option maxRecDepth 100000
set_option maxHeartbeats 16000000
set_option linter.unusedVariables false
namespace Go.Proofs.YtoaabebgmdbjeaaGreatDoor
open Go Go.RowKit
theorem Kt {P:Program} (d:Nat) (t e:TypeId) (k j:IntKind) (a b a' b':Int) (w:World) (ht:P.underlying t=some (.array 2 e)) (he:P.underlying e=some (.int k)) (hz: ∀w,(Go.sizeOf e).run P w=.ok 1 w) (hg: ∀w,(isAgg e).run P w=.ok false w):
  (Op.equalIn (d+2) t (.agg #[.int j a,.int j b]) (.agg #[.int j a',.int j b'])).run P w=.ok (a==a'&&b==b') w:=by
 have hi: ∀x y w,(Op.equalIn (d+1) e (.int j x) (.int j y)).run P w=.ok (x==y) w:=fun x y w=>run_equalIn_int w d e j k x y he
 have hp0: ∀(x y:Value) w,(Go.part e #[x,y] 0).run P w=.ok x w:=fun x y w=>by simp [Go.part,hg]
 have hp1: ∀(x y:Value) w,(Go.part e #[x,y] 1).run P w=.ok y w:=fun x y w=>by simp [Go.part,hg]
 rw [Op.equalIn]
 simp only [Sem.run_bind,run_underlying ht,Result.andThen_ok,hz]
 rw [Std.Legacy.Range.forIn_eq_forIn_range']
 simp [Std.Legacy.Range.size,List.range',hp0,hp1,hi]
 by_cases h1:a=a'<;>by_cases h2:b=b'<;>simp [h1,h2]
theorem Tk:Tryz.prog.eqGuardType Tryz.prog.depth 39=false:=by kernel_rfl
theorem RL:Tryz.prog.eqGuardType Tryz.prog.depth 41=false:=by kernel_rfl
theorem Oe (d:Nat) (a b a' b':Int) (w:World):(Op.equalIn (d+2) 39 (.agg #[.int .u8 a,.int .u8 b]) (.agg #[.int .u8 a',.int .u8 b'])).run Tryz.prog w=.ok (a==a'&&b==b') w:=
 Kt d _ 5 .u8 .u8 a b a' b' w (by kernel_rfl) Tryz.underlying5 (fun w=>by have z:=Tryz.sizeOf5;go_simp) (fun w=>by have z:=Tryz.isAgg5;go_simp)
theorem Tm (d:Nat) (r c p0 p1 p2 s0 s1 h r' c' q0 q1 q2 t0 t1 h':Int) (o o':Bool) (w:World):
  (Op.equalIn (d+3) 41 (.agg #[.int .i64 r,.int .i64 c,.int .i64 p0,.int .i64 p1,.int .i64 p2,.int .u8 s0,.int .u8 s1,.int .i64 h,.bool o]) (.agg #[.int .i64 r',.int .i64 c',.int .i64 q0,.int .i64 q1,.int .i64 q2,.int .u8 t0,.int .u8 t1,.int .i64 h',.bool o'])).run Tryz.prog w
   =.ok (r==r'&&c==c'&&(p0==q0&&p1==q1&&p2==q2)&&(s0==t0&&s1==t1)&&h==h'&&o==o') w:=by
 have u3:=Tryz.underlying3
 have a3:=Tryz.isAgg3
 have z3:=Tryz.sizeOf3
 have u4:=Tryz.underlying4
 have a4:=Tryz.isAgg4
 have z4:=Tryz.sizeOf4
 have a5:=Tryz.isAgg38
 have z5:=Tryz.sizeOf38
 have a6:=Tryz.isAgg39
 have z6:=Tryz.sizeOf39
 have hS:Tryz.prog.underlying 41=some (.struct (Tryz.prog.fieldsOf 41)):=by kernel_rfl
 have hp:Tryz.prog.stoodInHeld 41=false:=by kernel_rfl
 have pe:=Qe d p0 p1 p2 q0 q1 q2
 have se:=Oe d s0 s1 t0 t1
 rw [run_equalIn_agg w (d+2) _ _ _ hS hp]
 simp only [Program.fieldsOf,Tryz.underlying41]
 generalize (p0==q0&&p1==q1&&p2==q2)=b3 at pe⊢
 generalize (s0==t0&&s1==t1)=b4 at se⊢
 go_simp
 by_cases h1:r=r'<;>by_cases h2:c=c'<;>by_cases h5:h=h'<;>cases b3<;>cases b4<;>cases o<;>cases o'<;>simp [h1,h2,h5]
theorem ZW (a b a' b':Int) (w:World):(binOp .eql 39 (.agg #[.int .u8 a,.int .u8 b]) (.agg #[.int .u8 a',.int .u8 b'])).run Tryz.prog w=.ok (.bool (a==a'&&b==b')) w:=by
 rw [run_eql_struct,Oe 9998]
 rfl
theorem W9 (r c p0 p1 p2 s0 s1 h r' c' q0 q1 q2 t0 t1 h':Int) (o o':Bool) (w:World):
  (binOp .eql 41 (.agg #[.int .i64 r,.int .i64 c,.int .i64 p0,.int .i64 p1,.int .i64 p2,.int .u8 s0,.int .u8 s1,.int .i64 h,.bool o]) (.agg #[.int .i64 r',.int .i64 c',.int .i64 q0,.int .i64 q1,.int .i64 q2,.int .u8 t0,.int .u8 t1,.int .i64 h',.bool o'])).run Tryz.prog w
   =.ok (.bool (r==r'&&c==c'&&(p0==q0&&p1==q1&&p2==q2)&&(s0==t0&&s1==t1)&&h==h'&&o==o')) w:=by
 rw [run_eql_struct,Tm 9997]
 rfl
end Go.Proofs.YtoaabebgmdbjeaaGreatDoor
namespace Go.Proofs.YtoaabebgmdbjeaaGreatDoor
open Go.RowKit
theorem Tn (R K n c m c' row col top bot tabs sr sc B B':Nat) (p0 p1 p2 s0 s1 sh q0 q1 q2 t0 t1 th:Int) (pend wrap org shown keys pad so:Bool) (l:List PG.Cl) (A A':Option Addr) (w:World) (hx:BJ w B A n l) (hy:BJ w B' A' m l) (hB:B<=w.heap.size) (hB':B'<=w.heap.size) (hn:n<=1099511627776):
  Calls Tryz.prog 16 #[.agg #[.int .i64 R,.int .i64 K,.slice A n c,.int .i64 row,.int .i64 col,.bool pend,.int .i64 top,.int .i64 bot,.int .i64 p0,.int .i64 p1,.int .i64 p2,.int .u64 tabs,.int .u8 s0,.int .u8 s1,.int .i64 sh,.bool wrap,.bool org,.bool shown,.bool keys,.bool pad,.int .i64 sr,.int .i64 sc,.int .i64 q0,.int .i64 q1,.int .i64 q2,.int .u8 t0,.int .u8 t1,.int .i64 th,.bool so],.agg #[.int .i64 R,.int .i64 K,.slice A' m c',.int .i64 row,.int .i64 col,.bool pend,.int .i64 top,.int .i64 bot,.int .i64 p0,.int .i64 p1,.int .i64 p2,.int .u64 tabs,.int .u8 s0,.int .u8 s1,.int .i64 sh,.bool wrap,.bool org,.bool shown,.bool keys,.bool pad,.int .i64 sr,.int .i64 sc,.int .i64 q0,.int .i64 q1,.int .i64 q2,.int .u8 t0,.int .u8 t1,.int .i64 th,.bool so]] w fun e w'=>e=.returned (.bool true)/\Below w.heap.size w w':=by
 have SC:=hide (fun w' (hb:Below w.heap.size w w')=>TA l A A' B B' n c m c' w' (hx.below (hb.mono hB)) (hy.below (hb.mono hB')) hn)
 have ep: ∀w',(binOp .eql 38 (.agg #[.int .i64 p0,.int .i64 p1,.int .i64 p2]) (.agg #[.int .i64 p0,.int .i64 p1,.int .i64 p2])).run Tryz.prog w'=.ok (.bool true) w':=fun w'=>by rw [cB];simp
 have es: ∀w',(binOp .eql 39 (.agg #[.int .u8 s0,.int .u8 s1]) (.agg #[.int .u8 s0,.int .u8 s1])).run Tryz.prog w'=.ok (.bool true) w':=fun w'=>by rw [ZW];simp
 have ev: ∀w',(binOp .eql 41 (.agg #[.int .i64 sr,.int .i64 sc,.int .i64 q0,.int .i64 q1,.int .i64 q2,.int .u8 t0,.int .u8 t1,.int .i64 th,.bool so]) (.agg #[.int .i64 sr,.int .i64 sc,.int .i64 q0,.int .i64 q1,.int .i64 q2,.int .u8 t0,.int .u8 t1,.int .i64 th,.bool so])).run Tryz.prog w'=.ok (.bool true) w':=fun w'=>by rw [W9];simp
 have sg:=Tk
 have vg:=RL
 have pg:=Vw
 clear hx hy hB hB' hn
 have x1:=hide (Box.new w 43 #[.int .i64 R,.int .i64 K,.slice A n c,.int .i64 row,.int .i64 col,.bool pend,.int .i64 top,.int .i64 bot,.int .i64 p0,.int .i64 p1,.int .i64 p2,.int .u64 tabs,.int .u8 s0,.int .u8 s1,.int .i64 sh,.bool wrap,.bool org,.bool shown,.bool keys,.bool pad,.int .i64 sr,.int .i64 sc,.int .i64 q0,.int .i64 q1,.int .i64 q2,.int .u8 t0,.int .u8 t1,.int .i64 th,.bool so])
 have x2:=hide (Box.new (w.alloc (.cells #[.int .i64 R,.int .i64 K,.slice A n c,.int .i64 row,.int .i64 col,.bool pend,.int .i64 top,.int .i64 bot,.int .i64 p0,.int .i64 p1,.int .i64 p2,.int .u64 tabs,.int .u8 s0,.int .u8 s1,.int .i64 sh,.bool wrap,.bool org,.bool shown,.bool keys,.bool pad,.int .i64 sr,.int .i64 sc,.int .i64 q0,.int .i64 q1,.int .i64 q2,.int .u8 t0,.int .u8 t1,.int .i64 th,.bool so] 43)) 43 #[.int .i64 R,.int .i64 K,.slice A' m c',.int .i64 row,.int .i64 col,.bool pend,.int .i64 top,.int .i64 bot,.int .i64 p0,.int .i64 p1,.int .i64 p2,.int .u64 tabs,.int .u8 s0,.int .u8 s1,.int .i64 sh,.bool wrap,.bool org,.bool shown,.bool keys,.bool pad,.int .i64 sr,.int .i64 sc,.int .i64 q0,.int .i64 q1,.int .i64 q2,.int .u8 t0,.int .u8 t1,.int .i64 th,.bool so])
 have b0:Below w.heap.size w ((w.alloc (.cells #[.int .i64 R,.int .i64 K,.slice A n c,.int .i64 row,.int .i64 col,.bool pend,.int .i64 top,.int .i64 bot,.int .i64 p0,.int .i64 p1,.int .i64 p2,.int .u64 tabs,.int .u8 s0,.int .u8 s1,.int .i64 sh,.bool wrap,.bool org,.bool shown,.bool keys,.bool pad,.int .i64 sr,.int .i64 sc,.int .i64 q0,.int .i64 q1,.int .i64 q2,.int .u8 t0,.int .u8 t1,.int .i64 th,.bool so] 43)).alloc (.cells #[.int .i64 R,.int .i64 K,.slice A' m c',.int .i64 row,.int .i64 col,.bool pend,.int .i64 top,.int .i64 bot,.int .i64 p0,.int .i64 p1,.int .i64 p2,.int .u64 tabs,.int .u8 s0,.int .u8 s1,.int .i64 sh,.bool wrap,.bool org,.bool shown,.bool keys,.bool pad,.int .i64 sr,.int .i64 sc,.int .i64 q0,.int .i64 q1,.int .i64 q2,.int .u8 t0,.int .u8 t1,.int .i64 th,.bool so] 43)):=((Below.refl _ _).alloc (Nat.le_refl _) _).alloc (by simp) _
 have x1':=hide (x1.out.alloc (.cells #[.int .i64 R,.int .i64 K,.slice A' m c',.int .i64 row,.int .i64 col,.bool pend,.int .i64 top,.int .i64 bot,.int .i64 p0,.int .i64 p1,.int .i64 p2,.int .u64 tabs,.int .u8 s0,.int .u8 s1,.int .i64 sh,.bool wrap,.bool org,.bool shown,.bool keys,.bool pad,.int .i64 sr,.int .i64 sc,.int .i64 q0,.int .i64 q1,.int .i64 q2,.int .u8 t0,.int .u8 t1,.int .i64 th,.bool so] 43))
 go_enter Tryz.func16,Tryz.ntmps16
 go_wp2_with fail
 refine(SC.out _ b0).mono ?_
 rintro e w1 ⟨rfl,q,rfl⟩
 have b1:=hide (below_drewN b0 q)
 clear SC b0 x1 x2 x1'
 go_wp2_with fail
 go_ret
 exact⟨rfl,b1.out⟩
end Go.Proofs.YtoaabebgmdbjeaaGreatDoor
namespace Go.Proofs.YtoaabebgmdbjeaaGreatDoor
open Go.RowKit
theorem BQ {w:World} {g:Nat} {cs:Array Value} (h:Box w g 43 cs) (hs:cs.size=29) (ρ:Operand->Value) (o:Oper) {y:Operand} (ho:o.op=.load 43 y) (hy:ρ y=.pointer (some ⟨g,0,none⟩)):
  (execOp ρ o).run Tryz.prog w=.ok (.value (.agg cs)) w:=by
 obtain⟨d,hu,hd⟩:=Hy
 have e:(.agg cs:Value)=.agg cs.toList.toArray:=by simp
 unfold execOp
 simp only [ho,hy,Instr.loadAt,Instr.sureAddr,Sem.run_bind,Sem.run_pure,Result.andThen_ok,run_loadVar_mid w g 0 43 cs.toList d h.rangeAt hu hd (by rw [En];simp [hs])]
def EJ (S:SN.Sc) (v:Value) (w:World):Prop:= ∃A c,v=.agg (scA (.slice A (S.g.rows*S.g.AB) c) S)/\IsG w S.g (gv S.g.rows S.g.AB (.slice A (S.g.rows*S.g.AB) c))
theorem EJ.stays {Ts:List TypeId} {S:SN.Sc} (h:Ts.all (fun x=>x !=66)=true):Fb Ts (EJ S):=
 ⟨fun v w w' ⟨A,c,h1,h2⟩ hb=>⟨A,c,h1,h2.low hb⟩,fun v w w' g' T' cs' ⟨A,c,h1,h2⟩ hb hT hk=>⟨A,c,h1,h2.kept hb (fun e=>by
  have:=List.all_eq_true.1 h _ hT
  simp [e] at this) hk⟩⟩
theorem FQ {S:SN.Sc} {v:Value} {w:World} (h:IsS w S v):EJ S v w:=by
 obtain⟨x,rfl,hg⟩:=h
 obtain⟨A,c,rfl⟩:=Af hg
 exact⟨A,c,rfl,hg⟩
theorem Tp (S:SN.Sc) (A A':Option Addr) (c c':Nat) (w:World) (hn:S.g.rows*S.g.AB<=1099511627776) (h:IsG w S.g (gv S.g.rows S.g.AB (.slice A (S.g.rows*S.g.AB) c))) (h':IsG w S.g (gv S.g.rows S.g.AB (.slice A' (S.g.rows*S.g.AB) c'))):
  Calls Tryz.prog 16 #[.agg (scA (.slice A (S.g.rows*S.g.AB) c) S),.agg (scA (.slice A' (S.g.rows*S.g.AB) c') S)] w fun e w'=>e=.returned (.bool true)/\Below w.heap.size w w':=
 Tn S.g.rows S.g.AB _ c _ c' S.row S.col S.top S.bot S.tabs S.sv.row S.sv.col w.heap.size w.heap.size S.pen.1 S.pen.2.1 S.pen.2.2 S.s0 S.s1 S.sh S.sv.pen.1 S.sv.pen.2.1 S.sv.pen.2.2 S.sv.s0 S.sv.s1 S.sv.sh S.pend S.wrap S.org S.shown S.keys S.pad S.sv.org (PG.cells S.g) A A' w (KF h).1 (KF h').1 (Nat.le_refl _) (Nat.le_refl _) hn
end Go.Proofs.YtoaabebgmdbjeaaGreatDoor
namespace Go.Proofs.YtoaabebgmdbjeaaGreatDoor
open Go.RowKit
namespace SN
end SN
end Go.Proofs.YtoaabebgmdbjeaaGreatDoor
namespace Go.Proofs.YtoaabebgmdbjeaaGreatDoor
open Go.RowKit
end Go.Proofs.YtoaabebgmdbjeaaGreatDoor
namespace Go.Proofs.YtoaabebgmdbjeaaGreatDoor
open Go.RowKit
end Go.Proofs.YtoaabebgmdbjeaaGreatDoor
