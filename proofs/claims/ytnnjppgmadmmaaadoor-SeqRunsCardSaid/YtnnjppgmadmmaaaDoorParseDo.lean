/- The contract of do: one action with a byte. -/
import Derived.Test.YtnnjppgmadmmaaaDoorParseDec
import Derived.StillTailTactics
import Derived.Laws.BytesArg
set_option maxRecDepth 100000
namespace Go.Proofs.YtnnjppgmadmmaaaDoor
open Go.RowKit
set_option linter.unusedVariables false
/-- the parameters' row is the event's, where a CSI is said -/
def IsCsi (a : Int) (vp x : Value) : Prop := x = vp ∧ a = 160
theorem conv_text {w : World} {B : Nat} {vt : Value} {l : List Int} (h : w.ownsRow B 5 1 vt l.length (u8s l)) (w' : World) (hw : Below w.heap.size w w') : (convert 26 9 vt).run Tryd.prog w' = .ok (.string (strOfNums l)) w' := by
  have h' := own_kept h (Kept.of_below (L := []) hw) (by simp)
  rcases h'.2 with ⟨rfl, h0⟩ | ⟨g, cap, cur, hv, _, _⟩
  · have : l = [] := List.eq_nil_of_length_eq_zero h0
    subst this
    exact run_convert_bytes_nil w' _ _ Tryd.underlying26 Tryd.underlying5 _ _ _ Tryd.underlying9
  · subst hv
    refine run_convert_bytes_arg w' _ _ Tryd.underlying26 Tryd.underlying5 g 0 _ cap l rfl (fun i hi => ?_) _ Tryd.underlying9
    rw [Nat.zero_add, h'.cellAt i (by omega), u8s, List.getElem?_map, List.getElem?_eq_getElem hi, List.getD_eq_getElem?_getD, List.getElem?_eq_getElem hi]
    rfl
set_option maxRecDepth 100000 in
set_option maxHeartbeats 4000000 in
theorem do_16 (B g : Nat) (s : PA.S) (vp vt v : Value) (n : Nat) (xs : List Value) (b : Int) (w : World) (h : PB w B g s vp vt) (hk : s.ok) (hv : w.ownsRow B 24 7 v n xs) (hn : n ≤ 274877906944) (hpp : s.d.parts ≤ 1099511627000) (h0 : 0 ≤ b) (h1 : b < 256) :
    Calls Tryd.prog 52 #[.pointer (some ⟨g, 0, none⟩), v, .int .u8 16, .int .u8 b] w (Took B g (PA.doo s 16 b).1 (PA.doo s 16 b).2 vp vt v n xs (IsCsi 16 vp) w) := by
  obtain ⟨i0, hi, hz0, hz1, hz2⟩ := info_parts info_ev
  obtain ⟨k0, k1, k2, k3, k4, k5, k6, k7, k8⟩ := h.box.nine
  have fr := h.box.frozen
  have hlt := h.lt
  have hBw : B ≤ w.heap.size := by have := h.low; omega
  have HB := hide h
  have HV := hide hv
  have HK := hide hk
  have wb : IntKind.i32.wrap b = b := IntWalk.i32_in _ (by omega)
  have PC := hide (printed_any b)
  clear h hv hk k0 k1 k2 k3 k4 k5 k6 k7 k8 fr
  go_enter Tryd.func52, Tryd.ntmps52
  go_wp2_with fail
  refine (PC.out _).mono ?_
  rintro e w2 ⟨rfl, bb⟩
  have hown2 := own_kept HV.out (Kept.of_below (L := []) bb) (by simp)
  have hsz2 := bb.size
  go_wp2_with (at_builtin; refine wpList_appS rfl (.tmp 12) (.tmp 16) 36 rfl B 24 i0 _ 7 56 Tryd.underlying36 hi hz0 hz1 hz2 zev_size (by omega) v n _ rfl hown2 _ _ _ rfl rfl rfl (by intro u hu; simp at hu; (repeat' (first | (rcases hu with rfl | hu) | subst hu)) <;> rfl) (by omega) (by omega) (by omega) ?_; intro v' w3 hown3 hg3 hm3)
  go_ret
  exact took_one HB.out HV.out bb hg3 hm3 hown3 (ecells_pr b) (.inl ⟨rfl, rfl⟩)
set_option maxRecDepth 100000 in
set_option maxHeartbeats 4000000 in
theorem do_32 (B g : Nat) (s : PA.S) (vp vt v : Value) (n : Nat) (xs : List Value) (b : Int) (w : World) (h : PB w B g s vp vt) (hk : s.ok) (hv : w.ownsRow B 24 7 v n xs) (hn : n ≤ 274877906944) (hpp : s.d.parts ≤ 1099511627000) (h0 : 0 ≤ b) (h1 : b < 256) :
    Calls Tryd.prog 52 #[.pointer (some ⟨g, 0, none⟩), v, .int .u8 32, .int .u8 b] w (Took B g (PA.doo s 32 b).1 (PA.doo s 32 b).2 vp vt v n xs (IsCsi 32 vp) w) := by
  obtain ⟨i0, hi, hz0, hz1, hz2⟩ := info_parts info_ev
  obtain ⟨k0, k1, k2, k3, k4, k5, k6, k7, k8⟩ := h.box.nine
  have fr := h.box.frozen
  have hlt := h.lt
  have hBw : B ≤ w.heap.size := by have := h.low; omega
  have HB := hide h
  have HV := hide hv
  have HK := hide hk
  clear h hv hk k0 k1 k2 k3 k4 k5 k6 k7 k8 fr
  go_enter Tryd.func52, Tryd.ntmps52
  go_wp2_with (at_builtin; refine wpList_appS rfl (.tmp 20) (.tmp 23) 36 rfl B 24 i0 _ 7 56 Tryd.underlying36 hi hz0 hz1 hz2 zev_size (by omega) v n _ rfl HV.out _ _ _ rfl rfl rfl (by intro u hu; simp at hu; (repeat' (first | (rcases hu with rfl | hu) | subst hu)) <;> rfl) (by omega) (by omega) (by omega) ?_; intro v' w3 hown3 hg3 hm3)
  go_ret
  exact took_one HB.out HV.out (Below.refl _ _) hg3 hm3 hown3 (e := ⟨2, 0, 0, 0, b, [], []⟩) (u := .slice none 0 0) rfl (.inl ⟨rfl, rfl⟩)
set_option maxRecDepth 100000 in
set_option maxHeartbeats 4000000 in
theorem do_48 (B g : Nat) (s : PA.S) (vp vt v : Value) (n : Nat) (xs : List Value) (b : Int) (w : World) (h : PB w B g s vp vt) (hk : s.ok) (hv : w.ownsRow B 24 7 v n xs) (hn : n ≤ 274877906944) (hpp : s.d.parts ≤ 1099511627000) (h0 : 0 ≤ b) (h1 : b < 256) :
    Calls Tryd.prog 52 #[.pointer (some ⟨g, 0, none⟩), v, .int .u8 48, .int .u8 b] w (Took B g (PA.doo s 48 b).1 (PA.doo s 48 b).2 vp vt v n xs (IsCsi 48 vp) w) := by
  obtain ⟨i0, hi, hz0, hz1, hz2⟩ := info_parts info_ev
  obtain ⟨k0, k1, k2, k3, k4, k5, k6, k7, k8⟩ := h.box.nine
  have fr := h.box.frozen
  have hlt := h.lt
  have hBw : B ≤ w.heap.size := by have := h.low; omega
  have HB := hide h
  have HV := hide hv
  have HK := hide hk
  have DC := hide (pdecode_any (IsCsi 48 vp) B g s vp vt v n xs b w h hk.dec hv hn h0 h1)
  clear h hv hk k0 k1 k2 k3 k4 k5 k6 k7 k8 fr
  go_enter Tryd.func52, Tryd.ntmps52
  go_wp2_with fail
  refine DC.out.mono ?_
  rintro e w2 ⟨v', vp', vt', M, rfl, r⟩
  go_wp2_with fail
  go_ret
  exact ⟨v', vp', vt', M, rfl, r⟩
set_option maxRecDepth 100000 in
set_option maxHeartbeats 4000000 in
theorem do_64 (B g : Nat) (s : PA.S) (vp vt v : Value) (n : Nat) (xs : List Value) (b : Int) (w : World) (h : PB w B g s vp vt) (hk : s.ok) (hv : w.ownsRow B 24 7 v n xs) (hn : n ≤ 274877906944) (hpp : s.d.parts ≤ 1099511627000) (h0 : 0 ≤ b) (h1 : b < 256) :
    Calls Tryd.prog 52 #[.pointer (some ⟨g, 0, none⟩), v, .int .u8 64, .int .u8 b] w (Took B g (PA.doo s 64 b).1 (PA.doo s 64 b).2 vp vt v n xs (IsCsi 64 vp) w) := by
  obtain ⟨i0, hi, hz0, hz1, hz2⟩ := info_parts info_ev
  obtain ⟨k0, k1, k2, k3, k4, k5, k6, k7, k8⟩ := h.box.nine
  have fr := h.box.frozen
  have hlt := h.lt
  have hBw : B ≤ w.heap.size := by have := h.low; omega
  have HB := hide h
  have HV := hide hv
  have HK := hide hk
  have P2 := hide (h.store (s' := ⟨s.st, s.dec, ⟨b, s.d.inter, s.d.parts, s.d.params, s.d.text⟩⟩) 4 (.int .u8 b) (by simp [pcells]) h.par h.txt h.pn h.tn)
  clear h hv hk
  go_enter Tryd.func52, Tryd.ntmps52
  go_wp2_with fail
  go_ret
  exact took_none HV.out HB.out P2.out ((Kept.refl _ w).setCell (From.mem (by simp)) _) (From.mem (by simp)) (From.mem (by simp))
set_option maxRecDepth 100000 in
set_option maxHeartbeats 4000000 in
theorem do_112 (B g : Nat) (s : PA.S) (vp vt v : Value) (n : Nat) (xs : List Value) (b : Int) (w : World) (h : PB w B g s vp vt) (hk : s.ok) (hv : w.ownsRow B 24 7 v n xs) (hn : n ≤ 274877906944) (hpp : s.d.parts ≤ 1099511627000) (h0 : 0 ≤ b) (h1 : b < 256) :
    Calls Tryd.prog 52 #[.pointer (some ⟨g, 0, none⟩), v, .int .u8 112, .int .u8 b] w (Took B g (PA.doo s 112 b).1 (PA.doo s 112 b).2 vp vt v n xs (IsCsi 112 vp) w) := by
  obtain ⟨i0, hi, hz0, hz1, hz2⟩ := info_parts info_ev
  obtain ⟨k0, k1, k2, k3, k4, k5, k6, k7, k8⟩ := h.box.nine
  have fr := h.box.frozen
  have hlt := h.lt
  have hBw : B ≤ w.heap.size := by have := h.low; omega
  have HB := hide h
  have HV := hide hv
  have HK := hide hk
  have P2 := hide (h.store (s' := ⟨s.st, s.dec, ⟨s.d.priv, b, s.d.parts, s.d.params, s.d.text⟩⟩) 5 (.int .u8 b) (by simp [pcells]) h.par h.txt h.pn h.tn)
  clear h hv hk
  go_enter Tryd.func52, Tryd.ntmps52
  go_wp2_with fail
  go_ret
  exact took_none HV.out HB.out P2.out ((Kept.refl _ w).setCell (From.mem (by simp)) _) (From.mem (by simp)) (From.mem (by simp))
set_option maxRecDepth 100000 in
set_option maxHeartbeats 4000000 in
theorem do_80 (B g : Nat) (s : PA.S) (vp vt v : Value) (n : Nat) (xs : List Value) (b : Int) (w : World) (h : PB w B g s vp vt) (hk : s.ok) (hv : w.ownsRow B 24 7 v n xs) (hn : n ≤ 274877906944) (hpp : s.d.parts ≤ 1099511627000) (h0 : 0 ≤ b) (h1 : b < 256) (hb : 48 ≤ b ∧ b ≤ 57) :
    Calls Tryd.prog 52 #[.pointer (some ⟨g, 0, none⟩), v, .int .u8 80, .int .u8 b] w (Took B g (PA.doo s 80 b).1 (PA.doo s 80 b).2 vp vt v n xs (IsCsi 80 vp) w) := by
  obtain ⟨i0, hi, hz0, hz1, hz2⟩ := info_parts info_ev
  obtain ⟨k0, k1, k2, k3, k4, k5, k6, k7, k8⟩ := h.box.nine
  have fr := h.box.frozen
  have hlt := h.lt
  have hBw : B ≤ w.heap.size := by have := h.low; omega
  have HB := hide h
  have HV := hide hv
  have HK := hide hk
  have DC := hide (digit_any B g s vp vt (b - 48) w h hk.d (by omega) (by omega) (by omega))
  have wb : IntKind.u8.wrap (b - 48) = b - 48 := IntWalk.u8_in _ (by omega)
  clear h hv hk k0 k1 k2 k3 k4 k5 k6 k7 k8 fr
  go_enter Tryd.func52, Tryd.ntmps52
  go_wp2_with fail
  refine DC.out.mono ?_
  rintro e w2 ⟨vp', vt', rfl, hP, hK, f1, f2⟩
  go_wp2_with fail
  go_ret
  exact took_none HV.out HB.out hP hK f1 f2
set_option maxRecDepth 100000 in
set_option maxHeartbeats 4000000 in
theorem do_96 (B g : Nat) (s : PA.S) (vp vt v : Value) (n : Nat) (xs : List Value) (b : Int) (w : World) (h : PB w B g s vp vt) (hk : s.ok) (hv : w.ownsRow B 24 7 v n xs) (hn : n ≤ 274877906944) (hpp : s.d.parts ≤ 1099511627000) (h0 : 0 ≤ b) (h1 : b < 256) :
    Calls Tryd.prog 52 #[.pointer (some ⟨g, 0, none⟩), v, .int .u8 96, .int .u8 b] w (Took B g (PA.doo s 96 b).1 (PA.doo s 96 b).2 vp vt v n xs (IsCsi 96 vp) w) := by
  obtain ⟨i0, hi, hz0, hz1, hz2⟩ := info_parts info_ev
  obtain ⟨k0, k1, k2, k3, k4, k5, k6, k7, k8⟩ := h.box.nine
  have fr := h.box.frozen
  have hlt := h.lt
  have hBw : B ≤ w.heap.size := by have := h.low; omega
  have HB := hide h
  have HV := hide hv
  have HK := hide hk
  have DC := hide (semi_any B g s vp vt w h hk.d (by omega))
  clear h hv hk k0 k1 k2 k3 k4 k5 k6 k7 k8 fr
  go_enter Tryd.func52, Tryd.ntmps52
  go_wp2_with fail
  refine DC.out.mono ?_
  rintro e w2 ⟨vp', vt', rfl, hP, hK, f1, f2⟩
  go_wp2_with fail
  go_ret
  exact took_none HV.out HB.out hP hK f1 f2
set_option maxRecDepth 100000 in
set_option maxHeartbeats 4000000 in
theorem do_128 (B g : Nat) (s : PA.S) (vp vt v : Value) (n : Nat) (xs : List Value) (b : Int) (w : World) (h : PB w B g s vp vt) (hk : s.ok) (hv : w.ownsRow B 24 7 v n xs) (hn : n ≤ 274877906944) (hpp : s.d.parts ≤ 1099511627000) (h0 : 0 ≤ b) (h1 : b < 256) :
    Calls Tryd.prog 52 #[.pointer (some ⟨g, 0, none⟩), v, .int .u8 128, .int .u8 b] w (Took B g (PA.doo s 128 b).1 (PA.doo s 128 b).2 vp vt v n xs (IsCsi 128 vp) w) := by
  obtain ⟨i0, hi, hz0, hz1, hz2⟩ := info_parts info_ev
  obtain ⟨k0, k1, k2, k3, k4, k5, k6, k7, k8⟩ := h.box.nine
  have fr := h.box.frozen
  have hlt := h.lt
  have hBw : B ≤ w.heap.size := by have := h.low; omega
  have HB := hide h
  have HV := hide hv
  have HK := hide hk
  have DC := hide (gather_any B g s vp vt b w h hk.d)
  clear h hv hk k0 k1 k2 k3 k4 k5 k6 k7 k8 fr
  go_enter Tryd.func52, Tryd.ntmps52
  go_wp2_with fail
  refine DC.out.mono ?_
  rintro e w2 ⟨vp', vt', rfl, hP, hK, f1, f2⟩
  go_wp2_with fail
  go_ret
  exact took_none HV.out HB.out hP hK f1 f2
set_option maxRecDepth 100000 in
set_option maxHeartbeats 4000000 in
theorem do_144 (B g : Nat) (s : PA.S) (vp vt v : Value) (n : Nat) (xs : List Value) (b : Int) (w : World) (h : PB w B g s vp vt) (hk : s.ok) (hv : w.ownsRow B 24 7 v n xs) (hn : n ≤ 274877906944) (hpp : s.d.parts ≤ 1099511627000) (h0 : 0 ≤ b) (h1 : b < 256) :
    Calls Tryd.prog 52 #[.pointer (some ⟨g, 0, none⟩), v, .int .u8 144, .int .u8 b] w (Took B g (PA.doo s 144 b).1 (PA.doo s 144 b).2 vp vt v n xs (IsCsi 144 vp) w) := by
  obtain ⟨i0, hi, hz0, hz1, hz2⟩ := info_parts info_ev
  obtain ⟨k0, k1, k2, k3, k4, k5, k6, k7, k8⟩ := h.box.nine
  have fr := h.box.frozen
  have hlt := h.lt
  have hBw : B ≤ w.heap.size := by have := h.low; omega
  have HB := hide h
  have HV := hide hv
  have HK := hide hk
  clear h hv hk
  go_enter Tryd.func52, Tryd.ntmps52
  go_wp2_with (at_builtin; refine wpList_appS rfl (.tmp 67) (.tmp 75) 36 rfl B 24 i0 _ 7 56 Tryd.underlying36 hi hz0 hz1 hz2 zev_size (by omega) v n _ rfl HV.out _ _ _ rfl rfl rfl (by intro u hu; simp at hu; (repeat' (first | (rcases hu with rfl | hu) | subst hu)) <;> rfl) (by omega) (by omega) (by omega) ?_; intro v' w3 hown3 hg3 hm3)
  go_ret
  exact took_one HB.out HV.out (Below.refl _ _) hg3 hm3 hown3 (e := ⟨3, 0, 0, s.d.inter, b, [], []⟩) (u := .slice none 0 0) rfl (.inl ⟨rfl, rfl⟩)
set_option maxRecDepth 100000 in
set_option maxHeartbeats 4000000 in
theorem do_176 (B g : Nat) (s : PA.S) (vp vt v : Value) (n : Nat) (xs : List Value) (b : Int) (w : World) (h : PB w B g s vp vt) (hk : s.ok) (hv : w.ownsRow B 24 7 v n xs) (hn : n ≤ 274877906944) (hpp : s.d.parts ≤ 1099511627000) (h0 : 0 ≤ b) (h1 : b < 256) :
    Calls Tryd.prog 52 #[.pointer (some ⟨g, 0, none⟩), v, .int .u8 176, .int .u8 b] w (Took B g (PA.doo s 176 b).1 (PA.doo s 176 b).2 vp vt v n xs (IsCsi 176 vp) w) := by
  obtain ⟨i0, hi, hz0, hz1, hz2⟩ := info_parts info_ev
  obtain ⟨k0, k1, k2, k3, k4, k5, k6, k7, k8⟩ := h.box.nine
  have fr := h.box.frozen
  have hlt := h.lt
  have hBw : B ≤ w.heap.size := by have := h.low; omega
  have HB := hide h
  have HV := hide hv
  have HK := hide hk
  have CT := conv_text h.txt w (Below.refl _ _)
  clear h hv hk
  go_enter Tryd.func52, Tryd.ntmps52
  go_wp2_with (at_builtin; refine wpList_appS rfl (.tmp 101) (.tmp 109) 36 rfl B 24 i0 _ 7 56 Tryd.underlying36 hi hz0 hz1 hz2 zev_size (by omega) v n _ rfl HV.out _ _ _ rfl rfl rfl (by intro u hu; simp at hu; (repeat' (first | (rcases hu with rfl | hu) | subst hu)) <;> rfl) (by omega) (by omega) (by omega) ?_; intro v' w3 hown3 hg3 hm3)
  go_ret
  exact took_one HB.out HV.out (Below.refl _ _) hg3 hm3 hown3 (e := ⟨5, 0, 0, 0, 0, [], s.d.text⟩) (u := .slice none 0 0) rfl (.inl ⟨rfl, rfl⟩)
set_option maxRecDepth 100000 in
set_option maxHeartbeats 4000000 in
theorem do_0 (B g : Nat) (s : PA.S) (vp vt v : Value) (n : Nat) (xs : List Value) (b : Int) (w : World) (h : PB w B g s vp vt) (hk : s.ok) (hv : w.ownsRow B 24 7 v n xs) (hn : n ≤ 274877906944) (hpp : s.d.parts ≤ 1099511627000) (h0 : 0 ≤ b) (h1 : b < 256) :
    Calls Tryd.prog 52 #[.pointer (some ⟨g, 0, none⟩), v, .int .u8 0, .int .u8 b] w (Took B g (PA.doo s 0 b).1 (PA.doo s 0 b).2 vp vt v n xs (IsCsi 0 vp) w) := by
  obtain ⟨i0, hi, hz0, hz1, hz2⟩ := info_parts info_ev
  obtain ⟨k0, k1, k2, k3, k4, k5, k6, k7, k8⟩ := h.box.nine
  have fr := h.box.frozen
  have hlt := h.lt
  have hBw : B ≤ w.heap.size := by have := h.low; omega
  have HB := hide h
  have HV := hide hv
  have HK := hide hk
  clear h hv hk
  go_enter Tryd.func52, Tryd.ntmps52
  go_wp2_with fail
  go_ret
  exact took_none HV.out HB.out HB.out (Kept.refl _ w) (From.mem (by simp)) (From.mem (by simp))
end Go.Proofs.YtnnjppgmadmmaaaDoor
