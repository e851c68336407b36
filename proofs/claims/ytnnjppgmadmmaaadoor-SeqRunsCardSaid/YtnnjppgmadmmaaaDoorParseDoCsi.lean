/- The contract of do where it says a CSI; and of do, whatever the action. -/
import Derived.Test.YtnnjppgmadmmaaaDoorParseDo
import Derived.Deep.RegionHeld3
import Derived.Deep.AppendLies
set_option maxRecDepth 100000
namespace Go.Proofs.YtnnjppgmadmmaaaDoor
open Go.RowKit
set_option linter.unusedVariables false
set_option maxRecDepth 100000 in
set_option maxHeartbeats 4000000 in
theorem do_160 (B g : Nat) (s : PA.S) (vp vt v : Value) (n : Nat) (xs : List Value) (b : Int) (w : World) (h : PB w B g s vp vt) (hk : s.ok) (hv : w.ownsRow B 24 7 v n xs) (hn : n ≤ 274877906944) (hpp : s.d.parts ≤ 1099511627000) (h0 : 0 ≤ b) (h1 : b < 256) :
    Calls Tryd.prog 52 #[.pointer (some ⟨g, 0, none⟩), v, .int .u8 160, .int .u8 b] w (Took B g (PA.doo s 160 b).1 (PA.doo s 160 b).2 vp vt v n xs (IsCsi 160 vp) w) := by
  obtain ⟨i0, hi, hz0, hz1, hz2⟩ := info_parts info_ev
  obtain ⟨k0, k1, k2, k3, k4, k5, k6, k7, k8⟩ := h.box.nine
  have fr := h.box.frozen
  have hlt := h.lt
  have hBw : B ≤ w.heap.size := by have := h.low; omega
  have HB := hide h
  have HV := hide hv
  have HK := hide hk
  obtain ⟨Ap, cp, hvp, _⟩ := own_form h.par
  have HVP := hide hvp
  rw [hvp] at k7
  have ag : v.ownBlock ≠ some g := own_ne_box hv h.box (by decide)
  clear h hk hvp k0 k1 k2 k3 k6 k8 fr
  go_enter Tryd.func52, Tryd.ntmps52
  go_wp2_with fail
  go_region_held3 (fun w' => w'.cell? ⟨g, 4, none⟩ = some (.int .u8 s.d.priv) ∧ w'.cell? ⟨g, 5, none⟩ = some (.int .u8 s.d.inter) ∧ w'.cell? ⟨g, 7, none⟩ = some (.slice Ap s.d.params.length cp))
    (first
      | go_keep
      | (go_split_ands
         refine ⟨?_, ?_, ?_⟩
         · (rw [hgrow.cell_far _ (by simp; omega) (Ne.symm ag)]; assumption)
         · (rw [hgrow.cell_far _ (by simp; omega) (Ne.symm ag)]; assumption)
         · (rw [hgrow.cell_far _ (by simp; omega) (Ne.symm ag)]; assumption)))
    ((refine step_append_lies _ (by rfl) _ _ _ (by rfl) B 24 i0 _ 7 56 Tryd.underlying36 hi hz0 hz1 hz2 zev_size (by omega) v n xs (by rfl) ((hv.alloc _).drew)
        ⟨w.heap.size, 0, none⟩ 1 1 [.int .i64 4, .int .i32 0, .int .u8 s.d.priv, .int .u8 s.d.inter, .int .u8 b, .slice Ap s.d.params.length cp, .string ⟨#[]⟩] (by rfl) (by rfl) (World.news_of_block (cs := #[.int .i64 4, .int .i32 0, .int .u8 s.d.priv, .int .u8 s.d.inter, .int .u8 b, .slice Ap s.d.params.length cp, .string ⟨#[]⟩]) (t := 24) (fr := (0, 0)) (heap_alloc_new w _)) (by simp [Value.oneCell'])
        (by omega) (by simp only [maxLen]; omega) (by omega) (by simp; omega) (w.heap.size + 1) (by simp) ?_; intro gg cap w1 hown1 hgrow hat hlt1))
  go_wp2_with fail
  go_ret
  have hm : Moved w v (.slice (some ⟨gg, 0, none⟩) (n + 1) cap) := by
    rcases hat with hat | hat
    · exact .inl hat.symm
    · exact .inr ⟨gg, rfl, by omega⟩
  rw [← HVP.out] at hown1
  exact took_one HB.out HV.out (((Below.refl _ _).alloc (Nat.le_refl _) _).drew) hgrow (by
    rcases hat with hat | hat
    · exact .inl hat.symm
    · exact .inr ⟨gg, rfl, by simp; omega⟩) hown1 (e := ⟨4, 0, s.d.priv, s.d.inter, b, s.d.params, []⟩) (u := vp) rfl (.inr ⟨rfl, rfl, ⟨rfl, rfl⟩⟩)
set_option maxRecDepth 100000 in
theorem do_any (B g : Nat) (s : PA.S) (vp vt v : Value) (n : Nat) (xs : List Value) (a b : Int) (w : World) (h : PB w B g s vp vt) (hk : s.ok) (hv : w.ownsRow B 24 7 v n xs) (hn : n ≤ 274877906944) (hpp : s.d.parts ≤ 1099511627000) (h0 : 0 ≤ b) (h1 : b < 256) (ha : PA.isAct a) (hb : a = 80 → 48 ≤ b ∧ b ≤ 57) :
    Calls Tryd.prog 52 #[.pointer (some ⟨g, 0, none⟩), v, .int .u8 a, .int .u8 b] w (Took B g (PA.doo s a b).1 (PA.doo s a b).2 vp vt v n xs (IsCsi a vp) w) := by
  unfold PA.isAct at ha
  obtain rfl | rfl | rfl | rfl | rfl | rfl | rfl | rfl | rfl | rfl | rfl | rfl := ha
  · exact do_0 B g s vp vt v n xs b w h hk hv hn hpp h0 h1
  · exact do_16 B g s vp vt v n xs b w h hk hv hn hpp h0 h1
  · exact do_32 B g s vp vt v n xs b w h hk hv hn hpp h0 h1
  · exact do_48 B g s vp vt v n xs b w h hk hv hn hpp h0 h1
  · exact do_64 B g s vp vt v n xs b w h hk hv hn hpp h0 h1
  · exact do_80 B g s vp vt v n xs b w h hk hv hn hpp h0 h1 (hb rfl)
  · exact do_96 B g s vp vt v n xs b w h hk hv hn hpp h0 h1
  · exact do_112 B g s vp vt v n xs b w h hk hv hn hpp h0 h1
  · exact do_128 B g s vp vt v n xs b w h hk hv hn hpp h0 h1
  · exact do_144 B g s vp vt v n xs b w h hk hv hn hpp h0 h1
  · exact do_160 B g s vp vt v n xs b w h hk hv hn hpp h0 h1
  · exact do_176 B g s vp vt v n xs b w h hk hv hn hpp h0 h1
end Go.Proofs.YtnnjppgmadmmaaaDoor
