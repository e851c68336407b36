/- The contract of seq's Print. -/
import Derived.Test.YtnnjppgmadmmaaaDoorSeqPutEsc
set_option maxRecDepth 100000
namespace Go.Proofs.YtnnjppgmadmmaaaDoor
open Go.RowKit
set_option linter.unusedVariables false
/-- an event's numbers fit the fields that they lie in -/
def EvFits (e : PA.Ev) : Prop := 0 ≤ e.final ∧ ∀ x ∈ e.text, 0 ≤ x ∧ x < 256
/-- the events that are printed -/
def printed (es : List PA.Ev) : List PA.Ev := es.filter PA.rightB
theorem printed_snoc (l : List PA.Ev) (e : PA.Ev) : printed (l ++ [e]) = printed l ++ (if PA.rightB e = true then [e] else []) := by
  unfold printed
  rw [List.filter_append]
  congr 1
  simp [List.filter]
  split <;> simp_all
theorem bytesAll_app (a b : List PA.Ev) : PA.bytesAll (a ++ b) = PA.bytesAll a ++ PA.bytesAll b := by simp [PA.bytesAll]
theorem bytesAll_len : ∀ (es : List PA.Ev), (∀ e ∈ es, PA.Right e) → (PA.bytesAll es).length ≤ 4200 * es.length
  | [], _ => by simp [PA.bytesAll]
  | e :: es, h => by
    have h1 := bytes_len (h e (by simp))
    have h2 := bytesAll_len es (fun x hx => h x (by simp [hx]))
    show (PA.bytesOf e ++ PA.bytesAll es).length ≤ _
    simp only [List.length_append, List.length_cons]
    omega
theorem printed_right (es : List PA.Ev) : ∀ e ∈ printed es, PA.Right e := fun e he => PA.rightB_right (List.mem_filter.1 he).2
theorem printed_len (es : List PA.Ev) : (PA.bytesAll (printed es)).length ≤ 4200 * es.length := by
  have h1 := bytesAll_len (printed es) (printed_right es)
  have h2 : (printed es).length ≤ es.length := List.length_filter_le _ _
  have := Nat.mul_le_mul_left 4200 h2
  omega
set_option maxHeartbeats 4000000 in
theorem print_any (A : Option Addr) (n c : Nat) (M : List (PA.Ev × Value)) (w : World) (hM : SeenE w A n M) (hf : ∀ p ∈ M, EvFits p.1) (hn : n ≤ 100000) (ht : Tens w) :
    Calls Tryd.prog 10 #[.slice A n c] w (Encoded w (PA.bytesAll (printed (M.map (·.1))))) := by
  have HM := hide hM
  have HF := hide hf
  have HT := hide (show TensB w.heap.size w from Lib.tabBelow_of_tabIs ht)
  clear hM hf ht
  go_enter Tryd.func10, Tryd.ntmps10
  go_wp2_with fail
  go_loopw [3, 8] (fun o i wr => ∃ k : Nat, k ≤ n ∧ i = .int .i64 k ∧ wr.ownsRow w.heap.size 5 1 o (PA.bytesAll (printed ((M.take k).map (·.1)))).length (u8s (PA.bytesAll (printed ((M.take k).map (·.1))))) ∧ Below w.heap.size w wr) (fun _ i _ => n - (intOf i).toNat)
  case atStart => exact ⟨0, Nat.zero_le _, rfl, World.ownsRow_nil _ _ _ _, Below.refl _ _⟩
  case round =>
    obtain ⟨k, hk, rfl, ho, b0⟩ := hrel
    by_cases hlt : k < n
    · obtain ⟨q, hq⟩ : ∃ q, M[k]? = some q := ⟨_, List.getElem?_eq_getElem (by rw [HM.out.1]; exact hlt)⟩
      obtain ⟨gb, rfl, hgb, hcc, Ap, cp, hpu, hps, hle⟩ := HM.out.2 k q hq
      have hfit := HF.out q (List.mem_of_getElem? hq)
      have hsn := printed_snoc ((M.take k).map (·.1)) q.1
      rw [show (M.take k).map (·.1) ++ [q.1] = (M.take (k + 1)).map (·.1) from by rw [List.take_add_one, hq]; simp] at hsn
      have hpl := printed_len ((M.take k).map (·.1))
      rw [List.length_map, List.length_take] at hpl
      generalize printed ((M.take k).map (·.1)) = es at hsn ho hpl
      obtain ⟨e, u⟩ := q
      simp only [] at hcc hpu hps hle hfit hsn
      subst hpu
      obtain ⟨e0, e1, e2, e3, e4, el, et⟩ := e
      simp only [] at hcc hps hle
      have cb : ∀ j u, (ecells ⟨e0, e1, e2, e3, e4, el, et⟩ (.slice Ap el.length cp))[j]? = some u → wr.cell? ⟨gb, k * 7 + j, none⟩ = some u := fun j u hu => (b0.cell (p := ⟨gb, k * 7 + j, none⟩) hgb).trans (hcc j u hu)
      have c0 : wr.cell? ⟨gb, k * 7, none⟩ = some (.int .i64 e0) := cb 0 _ rfl
      have c1 : wr.cell? ⟨gb, k * 7 + 1, none⟩ = some (.int .i32 e1) := cb 1 _ rfl
      have c2 : wr.cell? ⟨gb, k * 7 + 2, none⟩ = some (.int .u8 e2) := cb 2 _ rfl
      have c3 : wr.cell? ⟨gb, k * 7 + 3, none⟩ = some (.int .u8 e3) := cb 3 _ rfl
      have c4 : wr.cell? ⟨gb, k * 7 + 4, none⟩ = some (.int .u8 e4) := cb 4 _ rfl
      have c5 : wr.cell? ⟨gb, k * 7 + 5, none⟩ = some (.slice Ap el.length cp) := cb 5 _ rfl
      have c6 : wr.cell? ⟨gb, k * 7 + 6, none⟩ = some (.string (strOfNums et)) := cb 6 _ rfl
      have RI := hide (fun o => right_any e0 e1 e2 e3 e4 Ap el.length cp el et (wr.alloc o) (((hps.below b0).alloc b0.size _).more (by have := b0.size; simp; omega)) (by omega) hfit.1 hfit.2)
      have PU := hide (fun (hr : PA.rightB ⟨e0, e1, e2, e3, e4, el, et⟩ = true) (w2 : World) (b2 : Below w.heap.size w w2) (h2 : w2.ownsRow w.heap.size 5 1 u3 (PA.bytesAll es).length (u8s (PA.bytesAll es))) => (show Calls Tryd.prog 26 #[u3, .agg #[.int .i64 e0, .int .i32 e1, .int .u8 e2, .int .u8 e3, .int .u8 e4, .slice Ap el.length cp, .string (strOfNums et)]] w2 (Wrote w.heap.size w2 (PA.bytesAll es).length (u8s (PA.bytesAll es)) (PA.bytesOf ⟨e0, e1, e2, e3, e4, el, et⟩)) from seqPut_any w.heap.size u3 _ _ ⟨e0, e1, e2, e3, e4, el, et⟩ Ap cp w2 (PA.rightB_right hr) h2 (by omega) b2.size (hps.below b2) (HT.out.on b2)))
      have HSN := hide hsn
      have HO := hide ho
      have HB := hide b0
      clear hcc cb hq hps hle hfit hsn ho b0 hpl
      generalize hbs : PA.bytesOf ⟨e0, e1, e2, e3, e4, el, et⟩ = bs at *
      generalize hev : (⟨e0, e1, e2, e3, e4, el, et⟩ : PA.Ev) = ev at *
      have HBS := hide hbs
      clear hev hbs
      generalize hR : PA.rightB ev = R at *
      clear hR
      have hbx := Box.new wr 24 #[.int .i64 e0, .int .i32 e1, .int .u8 e2, .int .u8 e3, .int .u8 e4, .slice Ap el.length cp, .string (strOfNums et)]
      rcases R with _ | _
      · go_wp2_with fail
        refine (RI.out _).mono ?_
        rintro x w1 ⟨rfl, b1⟩
        have bb : Below wr.heap.size wr w1 := ((Below.refl _ wr).alloc (Nat.le_refl _) _).trans (b1.mono (by simp))
        clear b1 hbx
        go_wp2_with fail
        go_roundw
        case rel => exact ⟨k + 1, by omega, by go_num, by rw [HSN.out]; simpa using own_below HO.out bb, HB.out.trans (bb.mono HB.out.size)⟩
        case measure => simp [intOf]; omega
      · go_wp2_with fail
        refine (RI.out _).mono ?_
        rintro x w1 ⟨rfl, b1⟩
        have bb : Below wr.heap.size wr w1 := ((Below.refl _ wr).alloc (Nat.le_refl _) _).trans (b1.mono (by simp))
        obtain ⟨k0, k1, k2, k3, k4, k5, k6⟩ := Box.seven (hbx.below b1 (by simp))
        have b2 : Below w.heap.size w w1 := HB.out.trans (bb.mono HB.out.size)
        have P2 := hide (PU.out (by trivial) w1 b2 (own_below HO.out bb))
        have B2 := hide b2
        clear b1 hbx bb b2
        go_wp2_with fail
        refine P2.out.mono ?_
        rintro x w2 ⟨v2, rfl, h2, kx2⟩
        have B3 := hide (B2.out.trans kx2.below)
        clear kx2
        go_wp2_with fail
        go_roundw
        case rel => exact ⟨k + 1, by omega, by go_num, by rw [HSN.out, if_pos (by trivial), bytesAll_app]; simpa [PA.bytesAll, u8s, HBS.out] using h2, B3.out⟩
        case measure => simp [intOf]; omega
    · obtain rfl : k = n := by omega
      rw [List.take_of_length_le (by rw [HM.out.1]; omega)] at ho
      go_wp2_with fail
      go_ret
      exact ⟨u3, rfl, ho, b0⟩
end Go.Proofs.YtnnjppgmadmmaaaDoor
