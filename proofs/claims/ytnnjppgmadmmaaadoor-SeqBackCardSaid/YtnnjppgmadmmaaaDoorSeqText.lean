/- SeqText: text of any runes, printed as events, is its UTF-8; sequences between don't touch it. -/
import Derived.Test.YtnnjppgmadmmaaaDoorSeqRuns
import Derived.Test.YtnnjppgmadmmaaaDoorKeepEvent
import Derived.Test.YtnnjppgmadmmaaaDoorSeqRune
import Derived.Test.YtnnjppgmadmmaaaDoorStepBox
import Derived.Test.YtnnjppgmadmmaaaDoorBeside
import Derived.Test.YtnnjppgmadmmaaaDoorOpenMany
import Derived.Deep.DeepCutAuto
import Derived.Deep.CutBlock
import Derived.Deep.RegionHeld3
set_option maxRecDepth 100000
namespace Go.Proofs.YtnnjppgmadmmaaaDoor
open Go.RowKit
set_option linter.unusedVariables false
theorem own_drew' {w : World} {base size n : Nat} {e : TypeId} {v : Value} {xs : List Value} (h : w.ownsRow base e size v n xs) : w.drew.ownsRow base e size v n xs := h
section
variable {w w' : World} {b b' n n' s s' : Nat} {e e' : TypeId} {v v' : Value} {xs xs' : List Value}
theorem own_beside (h : w.ownsRow b e s v n xs) (h' : w.ownsRow b' e' s' v' n' xs') (hne : e ≠ e') (hg : w.grownBy w' v'.ownBlock) : w'.ownsRow b e s v n xs :=
  own_kept h ((Kept.refl [v'.ownBlock] w).grown hg (From.mem (by simp))) (fun k hk hm => by
    simp only [List.mem_singleton] at hm
    exact own_ne_own h h' hne hk hm.symm)
theorem box_beside {g : Nat} {t : TypeId} {cs : Array Value} (h : Box w g t cs) (h' : w.ownsRow b' e' s' v' n' xs') (hne : e' ≠ t) (hg : w.grownBy w' v'.ownBlock) : Box w' g t cs :=
  h.grown hg (fun k => own_ne_box h' h hne k.symm)
end
/-- the right ones of the first k runes -/
def okRunes (l : List Int) (k : Nat) : List Int := (l.take k).filter fun r => decide (PA.okRune r)
theorem okRunes_snoc {l : List Int} {k : Nat} {x : Int} (hx : l[k]? = some x) : okRunes l (k + 1) = okRunes l k ++ (if PA.okRune x then [x] else []) := by
  unfold okRunes
  rw [List.take_add_one, hx, List.filter_append]
  congr 1
  by_cases h : PA.okRune x
  · simp [h]
  · simp [h]
theorem okRunes_ok (l : List Int) (k : Nat) : ∀ r ∈ okRunes l k, PA.okRune r := fun r hr => by
  have := (List.mem_filter.1 hr).2
  simpa using this
theorem okRunes_len (l : List Int) (k : Nat) : (okRunes l k).length ≤ k := by
  have := List.length_filter_le (fun r => decide (PA.okRune r)) (l.take k)
  rw [List.length_take] at this
  unfold okRunes
  omega
def prEvs (rs : List Int) : List (PA.Ev × Value) := rs.map fun r => (PA.pr r, .slice none 0 0)
theorem prEvs_snoc (rs : List Int) (r : Int) : prEvs (rs ++ [r]) = prEvs rs ++ [(PA.pr r, .slice none 0 0)] := by simp [prEvs]
theorem rightB_pr (r : Int) : PA.rightB (PA.pr r) = decide (PA.okRune r) := by
  show PA.rightB ⟨1, r, 0, 0, 0, [], []⟩ = _
  rw [rb1, show evEqB ⟨1, r, 0, 0, 0, [], []⟩ ⟨1, r, 0, 0, 0, [], []⟩ = true from (evEqB_iff _ _).2 rfl, Bool.and_true]
/-- the call's own events and runes -/
def TextOwn (w1 : World) (l : List Int) (u v : Value) (wr : World) : Prop :=
  ∃ k : Nat, k ≤ 12 ∧ wr.ownsRow w1.heap.size 24 7 u (okRunes l k).length (mcells (prEvs (okRunes l k))) ∧ wr.ownsRow w1.heap.size 21 1 v (okRunes l k).length (i32s (okRunes l k)) ∧ Below w1.heap.size w1 wr
theorem Arg.below {k : IntKind} {w w' : World} {A : Option Addr} {n c : Nat} {l : List Int} (h : Arg k w A n c l) (b : Below w.heap.size w w') : Arg k w' A n c l :=
  ⟨h.len, (h.seen.below b).more b.size, h.wf, h.le, h.cap, h.nil⟩
/-- a row of events, as the reading of it -/
theorem seenE_row {w : World} {B c : Nat} {A : Option Addr} {M : List (PA.Ev × Value)} {n : Nat} (h : w.ownsRow B 24 7 (.slice A n c) n (mcells M)) (hn : M.length = n) (hp : ∀ p ∈ M, ParIn w p) : SeenE w A n M := by
  refine ⟨hn, fun k p hk => ?_⟩
  have hkl : k < M.length := (List.getElem?_eq_some_iff.1 hk).1
  rcases h.2 with ⟨hv, h0⟩ | ⟨gb, cap, cur, hv, _, hh, _⟩
  · omega
  · injection hv with h1 h2 h3
    subst h1 h3
    refine ⟨gb, rfl, (Array.getElem?_eq_some_iff.1 hh).1, fun j u hu => ?_, hp p (List.mem_of_getElem? hk)⟩
    have hj : j < 7 := (List.getElem?_eq_some_iff.1 hu).1
    rw [h.cellAt _ (by omega)]
    exact mcells_at M k j p u hk hu
theorem parIn_nil {w : World} (r : Int) : ParIn w (PA.pr r, .slice none 0 0) := ⟨none, 0, rfl, Seen.nil_ _ _ _, by simp [PA.pr]⟩
theorem prEvs_par {w : World} (rs : List Int) : ∀ p ∈ prEvs rs, ParIn w p := fun p hp => by
  obtain ⟨r, _, rfl⟩ := List.mem_map.1 hp
  exact parIn_nil r
theorem prEvs_fits (rs : List Int) : ∀ p ∈ prEvs rs, EvFits p.1 := fun p hp => by
  obtain ⟨r, _, rfl⟩ := List.mem_map.1 hp
  exact ⟨by simp [PA.pr], by simp [PA.pr]⟩
theorem printed_all {es : List PA.Ev} (h : ∀ e ∈ es, PA.Right e) : printed es = es := List.filter_eq_self.2 (fun e he => PA.right_rightB (h e he))
theorem evFits_right {e : PA.Ev} (h : PA.Right e) : EvFits e := by
  rcases h with ⟨r, rfl, h⟩ | ⟨b, rfl, h0, h1, _⟩ | ⟨i, f, rfl, hi, h0, h1, h⟩ | ⟨p, i, f, ps, rfl, hp, hi, h0, h1, _⟩ | ⟨t, rfl, hl, h⟩
  · exact ⟨by simp [PA.pr], by simp [PA.pr]⟩
  · exact ⟨h0, by simp⟩
  · exact ⟨by simp; omega, by simp⟩
  · exact ⟨by simp; omega, by simp⟩
  · exact ⟨by simp, fun x hx => by have := h x hx; omega⟩
theorem own_block_some {w : World} {base n c : Nat} {e : TypeId} {ad : Addr} {xs : List Value} (h : w.ownsRow base e 1 (.slice (some ad) n c) n xs) : (Value.slice (some ad) n c).ownBlock = some ad.block := by
  rcases h.2 with ⟨hv, _⟩ | ⟨g, cap, cur, hv, _⟩
  · cases hv
  · injection hv with h1 _ _
    injection h1 with h1
    subst h1
    rfl
theorem pr_right {r : Int} (h : PA.okRune r) : PA.Right (PA.pr r) := .inl ⟨r, rfl, h⟩
/-- the runes' events, the same event behind each -/
def mixM (rs : List Int) (x : PA.Ev × Value) (k : Nat) : List (PA.Ev × Value) := (rs.take k).flatMap fun r => [(PA.pr r, .slice none 0 0), x]
theorem mixM_snoc {rs : List Int} {x : PA.Ev × Value} {k : Nat} {r : Int} (h : rs[k]? = some r) : mixM rs x (k + 1) = mixM rs x k ++ [(PA.pr r, .slice none 0 0), x] := by
  unfold mixM
  rw [List.take_add_one, h]
  simp
theorem mixM_len (rs : List Int) (x : PA.Ev × Value) : ∀ (k : Nat), k ≤ rs.length → (mixM rs x k).length = 2 * k
  | 0, _ => rfl
  | k + 1, h => by
    have hk : rs[k]? = some (rs[k]'(by omega)) := List.getElem?_eq_getElem (by omega)
    rw [mixM_snoc hk, List.length_append, mixM_len rs x k (by omega)]
    simp
    omega
theorem mixM_mem {rs : List Int} {x : PA.Ev × Value} {k : Nat} {p : PA.Ev × Value} (h : p ∈ mixM rs x k) : p = x ∨ ∃ r ∈ rs, p = (PA.pr r, .slice none 0 0) := by
  obtain ⟨r, hr, hp⟩ := List.mem_flatMap.1 h
  simp only [List.mem_cons, List.not_mem_nil, or_false] at hp
  rcases hp with hp | hp
  · exact .inr ⟨r, List.mem_of_mem_take hr, hp⟩
  · exact .inl hp
/-- append(out, x, y) of two structs that were just laid. -/
theorem wpList_appS2 {P : Program} {w : World} {ops : Array Oper} {rest : List Oper} {o : Oper} {a : Act} {Q : Exit → Act → World → Prop} (hgd : o.guard = none) (s x : Operand) (t : TypeId)
    (ho : o.op = .call { callee := .builtin .append, args := #[s, x], argTypes := #[t, t] })
    (base : Nat) (e : TypeId) (i : TypeInfo) (z : Value) (size bytes : Nat) (ht : P.underlying t = some (.slice e)) (hi : P.info? e = some i) (hz : i.zero = some z)
    (hsize : i.size = size) (hby : i.bytes = bytes) (hzs : z.cells.size = size) (hsz : 0 < size)
    (v : Value) (n : Nat) (xs : List Value) (hs : a.eval s = v) (hown : w.ownsRow base e size v n xs) (cs : Array Value) (te : TypeId)
    (g : Nat) (hx : a.eval x = .slice (some ⟨g, 0, none⟩) 2 2) (hcs : cs.size = 2 * size) (hgw : g = w.heap.size) (h1 : ∀ u ∈ cs.toList, u.oneCell' = true) (hb8 : bytes ≤ 64) (hn : n ≤ 1099511627776) (hbase : base ≤ w.heap.size)
    (h : ∀ v' w', w'.ownsRow base e size v' (n + 2) (xs ++ cs.toList) → w.grownBy w' v.ownBlock → Moved w v v' → wpList P ops Q rest (a.put o.dst v') w') :
    wpList P ops Q (o :: rest) a (w.alloc (.cells cs te)) := by
  subst hgw
  refine wpList_append_own_at (P := P) (w.alloc (.cells cs te)) hgd s x t ho base e i z size bytes ht hi hz hsize hby hzs hsz v n xs hs (hown.alloc _) ⟨w.heap.size, 0, none⟩ 2 2 cs.toList hx (by simpa using hcs) (fun j u hu => ?_)
    h1 (by simp only [maxLen]; omega) ?_ (by simp; omega) ?_
  · rw [Addr.add_lit, Nat.zero_add, (Box.new w te cs).cell j]
    simpa using hu
  · have : (n + 2) * bytes ≤ 1099511627778 * 64 := Nat.mul_le_mul (by omega) hb8
    omega
  · intro v' w' hown' hg _ hat
    refine h v' w' hown' ⟨hg.os, hg.tape, hg.output, Nat.le_trans (by simp) hg.size, fun k hk hne => (hg.block k (by simp; omega) hne).trans (Below.heap_alloc w _ k hk)⟩ ?_
    rcases hat with hat | hat
    · exact .inl hat
    · exact .inr ⟨_, hat, by simp⟩
set_option maxHeartbeats 16000000 in
theorem seqText_any (A0 : Option Addr) (n0 c0 : Nat) (l0 : List Int) (kd rn fn : Int) (Ap At : Option Addr) (np cp nt ct : Nat) (lp lt : List Int) (w : World) (hA : Arg .i32 w A0 n0 c0 l0) (hk : -9223372036854775808 ≤ kd ∧ kd ≤ 9223372036854775807) (hr : -9223372036854775808 ≤ rn ∧ rn ≤ 9223372036854775807) (hf : -9223372036854775808 ≤ fn ∧ fn ≤ 9223372036854775807) (hP : Arg .i64 w Ap np cp lp) (hT : Arg .u8 w At nt ct lt) (ht : Tens w) (htab : Tabs w) :
    Calls Tryd.prog 8 #[.slice A0 n0 c0, .agg #[.int .i64 kd, .int .i64 rn, .int .i64 fn, .slice Ap np cp, .slice At nt ct]] w fun e w' => e = .returned (.bool true) ∧ Below w.heap.size w w' := by
  obtain ⟨i0, hi, hz0, hz1, hz2⟩ := info_parts info_ev
  obtain ⟨i1, hj, hy0, hy1, hy2⟩ := info_parts info_i32
  have HA := hide hA
  have HP := hide hP
  have HTx := hide hT
  have HT := hide ht
  have HTB := hide htab
  have hcap := hA.cap
  have hle := hA.le
  unfold maxLen at hcap
  have KB := hide (And.intro hk (And.intro hr hf))
  clear hA hP hT ht htab hk hr hf
  go_enter Tryd.func8, Tryd.ntmps8
  go_upto_region 1 with fail
  have bK := Box.new w 33 #[.int .i64 kd, .int .i64 rn, .int .i64 fn, .slice Ap np cp, .slice At nt ct]
  have bb : Below w.heap.size w (w.alloc (.cells #[.int .i64 kd, .int .i64 rn, .int .i64 fn, .slice Ap np cp, .slice At nt ct] 33)) := (Below.refl _ _).alloc (Nat.le_refl _) _
  generalize w.alloc (.cells #[.int .i64 kd, .int .i64 rn, .int .i64 fn, .slice Ap np cp, .slice At nt ct] 33) = w1 at bK bb ⊢
  have HAS := hide ((HA.out.seen.below bb).more bb.size)
  have BB := hide bb
  have BK := hide bK
  obtain ⟨gK, hgK⟩ : ∃ gK, w.heap.size = gK := ⟨_, rfl⟩
  have HGK := hide hgK
  rw [hgK] at BK
  rw [hgK]
  clear bb bK hgK
  go_upto_block 0 with fail
  go_cut [5, 6] (fun u v wx => TextOwn w1 l0 u v wx)
  case first =>
    go_wp2_with fail
    go_loopw [5, 6, 7] (fun u v i wr => ∃ k : Nat, k ≤ 12 ∧ k ≤ n0 ∧ i = .int .i64 k ∧ wr.ownsRow w1.heap.size 24 7 u (okRunes l0 k).length (mcells (prEvs (okRunes l0 k))) ∧ wr.ownsRow w1.heap.size 21 1 v (okRunes l0 k).length (i32s (okRunes l0 k)) ∧ Below w1.heap.size w1 wr) (fun _ _ i _ => 12 - (intOf i).toNat)
    case atStart => exact ⟨0, by omega, Nat.zero_le _, rfl, World.ownsRow_nil _ _ _ _, World.ownsRow_nil _ _ _ _, Below.refl _ _⟩
    case round =>
      obtain ⟨k, hk12, hkn, rfl, ho5, ho6, b1⟩ := hrel
      have cs : n0 ≤ k ∨ (k < n0 ∧ 12 ≤ k) ∨ (k < n0 ∧ k < 12) := by omega
      rcases cs with a | ⟨a, a'⟩ | ⟨a, a'⟩
      · go_wp2_with fail
        go_meet
        exact ⟨k, hk12, ho5, ho6, b1⟩
      · go_wp2_with fail
        go_meet
        exact ⟨k, hk12, ho5, ho6, b1⟩
      · obtain ⟨ad, u, rfl, had, hu, hc⟩ := (HAS.out.below b1).at_ a
        rw [List.getElem?_map] at hu
        obtain ⟨r, hx, rfl⟩ := Option.map_eq_some_iff.1 hu
        have HS := hide (okRunes_snoc hx)
        have hol := okRunes_len l0 k
        generalize okRunes l0 k = rs at ho5 ho6 HS hol
        clear hu hx
        have RI := hide (fun (w' : World) => right_any 1 r 0 0 0 none 0 0 [] [] w' (Seen.nil_ _ _ _) (by omega) (by omega) (by simp))
        rw [show PA.rightB ⟨1, r, 0, 0, 0, [], []⟩ = decide (PA.okRune r) from rightB_pr r] at RI
        obtain ⟨m, hm⟩ : ∃ m, rs.length = m := ⟨_, rfl⟩
        rw [hm] at ho5 ho6 hol
        have HM := hide hm
        obtain ⟨A5, c5, rfl, _⟩ := own_form' ho5
        obtain ⟨A6, c6, rfl, _⟩ := own_form' ho6
        have HO5 := hide ho5
        have HO6 := hide ho6
        have HB1 := hide b1
        have hc0 : w1.cell? (ad.add k) = some (.int .i32 r) := (b1.cell (p := ad.add k) (by rw [addBlock]; exact had)).symm.trans hc
        clear ho5 ho6 hm b1
        go_upto_region 7 with fail
        have bx := Box.new wr 24 #[.int .i64 1, .int .i32 r, .int .u8 0, .int .u8 0, .int .u8 0, .slice none 0 0, .string ⟨#[]⟩]
        have bb : Below wr.heap.size wr (wr.alloc (.cells #[.int .i64 1, .int .i32 r, .int .u8 0, .int .u8 0, .int .u8 0, .slice none 0 0, .string ⟨#[]⟩] 24)) := (Below.refl _ _).alloc (Nat.le_refl _) _
        generalize wr.alloc (.cells #[.int .i64 1, .int .i32 r, .int .u8 0, .int .u8 0, .int .u8 0, .slice none 0 0, .string ⟨#[]⟩] 24) = w2 at bx bb ⊢
        have HB2 := hide (HB1.out.trans (bb.mono HB1.out.size))
        have HP5 := hide (own_kept HO5.out (Kept.of_below (L := []) bb) (by simp))
        have HP6 := hide (own_kept HO6.out (Kept.of_below (L := []) bb) (by simp))
        have BX := hide bx
        obtain ⟨g8, hg8⟩ : ∃ g8, wr.heap.size = g8 := ⟨_, rfl⟩
        rw [hg8] at BX
        rw [hg8]
        obtain ⟨k0, k1, k2, k3, k4, k5, k6⟩ := Box.seven BX.out
        have g8n : (Value.slice A5 m c5).ownBlock ≠ some g8 := fun e => by have := (HO5.out.lt _ e).2; omega
        clear bx bb hg8 HO5 HO6 HB1 hc
        go_wp2_with fail
        refine (RI.out w2).mono ?_
        rintro e w3 ⟨rfl, bb⟩
        have HB3 := hide (HB2.out.trans (bb.mono HB2.out.size))
        have HQ5 := hide (own_kept HP5.out (Kept.of_below (L := []) bb) (by simp))
        have HQ6 := hide (own_kept HP6.out (Kept.of_below (L := []) bb) (by simp))
        have BX3 := hide (BX.out.below bb BX.out.lt)
        have hcr := (HB3.out.cell (p := ad.add k) (by rw [addBlock]; exact had)).trans hc0
        have hg8n := g8n
        clear bb k0 k1 k2 k3 k4 k5 k6 HP5 HP6 BX HB2 RI g8n
        by_cases hok : PA.okRune r
        · have hd1 : decide (PA.okRune r) = true := by simpa using hok
          rw [hd1]
          rw [if_pos hok] at HS
          clear hd1 hok
          have hn8 : some g8 ∉ [(Value.slice A5 m c5).ownBlock, (Value.slice A6 m c6).ownBlock] := by
            have a := own_ne_box HQ5.out BX3.out
            have c := own_ne_box HQ6.out BX3.out (by decide)
            have d := hg8n
            simp only [List.mem_cons, List.not_mem_nil, or_false, not_or]
            exact ⟨fun e => d e.symm, fun e => c e.symm⟩
          have hnr : some (ad.add k).block ∉ [(Value.slice A5 m c5).ownBlock, (Value.slice A6 m c6).ownBlock] := by
            rw [addBlock]
            simp only [List.mem_cons, List.not_mem_nil, or_false, not_or]
            exact ⟨fun e => by have := (HQ5.out.lt _ e.symm).1; omega, fun e => by have := (HQ6.out.lt _ e.symm).1; omega⟩
          have R8_0 : ∀ w', Kept [(Value.slice A5 m c5).ownBlock, (Value.slice A6 m c6).ownBlock] w3 w' → w'.cell? ⟨g8, 0, none⟩ = some (.int .i64 1) := fun w' h => (BX3.out.kept h hn8).cell 0
          have R8_1 : ∀ w', Kept [(Value.slice A5 m c5).ownBlock, (Value.slice A6 m c6).ownBlock] w3 w' → w'.cell? ⟨g8, 1, none⟩ = some (.int .i32 r) := fun w' h => (BX3.out.kept h hn8).cell 1
          have R8_2 : ∀ w', Kept [(Value.slice A5 m c5).ownBlock, (Value.slice A6 m c6).ownBlock] w3 w' → w'.cell? ⟨g8, 2, none⟩ = some (.int .u8 0) := fun w' h => (BX3.out.kept h hn8).cell 2
          have R8_3 : ∀ w', Kept [(Value.slice A5 m c5).ownBlock, (Value.slice A6 m c6).ownBlock] w3 w' → w'.cell? ⟨g8, 3, none⟩ = some (.int .u8 0) := fun w' h => (BX3.out.kept h hn8).cell 3
          have R8_4 : ∀ w', Kept [(Value.slice A5 m c5).ownBlock, (Value.slice A6 m c6).ownBlock] w3 w' → w'.cell? ⟨g8, 4, none⟩ = some (.int .u8 0) := fun w' h => (BX3.out.kept h hn8).cell 4
          have R8_5 : ∀ w', Kept [(Value.slice A5 m c5).ownBlock, (Value.slice A6 m c6).ownBlock] w3 w' → w'.cell? ⟨g8, 5, none⟩ = some (.slice none 0 0) := fun w' h => (BX3.out.kept h hn8).cell 5
          have R8_6 : ∀ w', Kept [(Value.slice A5 m c5).ownBlock, (Value.slice A6 m c6).ownBlock] w3 w' → w'.cell? ⟨g8, 6, none⟩ = some (.string ⟨#[]⟩) := fun w' h => (BX3.out.kept h hn8).cell 6
          have Rr : ∀ w', Kept [(Value.slice A5 m c5).ownBlock, (Value.slice A6 m c6).ownBlock] w3 w' → w'.cell? (ad.add k) = some (.int .i32 r) := fun w' h => (h.cell (by rw [addBlock]; have := HB3.out.size; omega) hnr).trans hcr
          have hd : Kept [(Value.slice A5 m c5).ownBlock, (Value.slice A6 m c6).ownBlock] w3 w3.drew := (Kept.refl _ _).drew
          have hA1 : Kept [(Value.slice A5 m c5).ownBlock, (Value.slice A6 m c6).ownBlock] w3 ((w3.alloc (.cells #[.int .i64 1, .int .i32 r, .int .u8 0, .int .u8 0, .int .u8 0, .slice none 0 0, .string ⟨#[]⟩] 24)).drew) := ((Kept.refl _ _).alloc _).drew
          have hA2 : Kept [(Value.slice A5 m c5).ownBlock, (Value.slice A6 m c6).ownBlock] w3 ((w3.alloc (.cells #[.int .i32 r] 21)).drew) := ((Kept.refl _ _).alloc _).drew
          have hA3 : Kept [(Value.slice A5 m c5).ownBlock, (Value.slice A6 m c6).ownBlock] w3 (((w3.alloc (.cells #[.int .i64 1, .int .i32 r, .int .u8 0, .int .u8 0, .int .u8 0, .slice none 0 0, .string ⟨#[]⟩] 24)).alloc (.cells #[.int .i32 r] 21)).drew) := (((Kept.refl _ _).alloc _).alloc _).drew
          have hA4 : Kept [(Value.slice A5 m c5).ownBlock, (Value.slice A6 m c6).ownBlock] w3 (((w3.alloc (.cells #[.int .i32 r] 21)).alloc (.cells #[.int .i64 1, .int .i32 r, .int .u8 0, .int .u8 0, .int .u8 0, .slice none 0 0, .string ⟨#[]⟩] 24)).drew) := (((Kept.refl _ _).alloc _).alloc _).drew
          have hX := Lib.hid hd
          have hAE := hd
          have hAD := hd
          have hs3 := HB3.out.size
          go_wp2_with fail
          go_region_held3 (fun w' => Kept [(Value.slice A5 m c5).ownBlock, (Value.slice A6 m c6).ownBlock] w3 w')
            (first | with_reducible exact hd | with_reducible exact hA1 | with_reducible exact hA2 | with_reducible exact hA3 | with_reducible exact hA4 | with_reducible exact hAE | with_reducible exact hAD | with_reducible exact hX.out)
            (first
              | (refine (step_appB (by rfl) (.tmp 32) (.tmp 34) 36 (by rfl) w1.heap.size 24 i0 _ 7 56 Tryd.underlying36 hi hz0 hz1 hz2 zev_size (by omega) (.slice A5 m c5) m (mcells (prEvs rs)) (by rfl) (own_drew' (own_alloc' HQ5.out (.cells #[.int .i64 1, .int .i32 r, .int .u8 0, .int .u8 0, .int .u8 0, .slice none 0 0, .string ⟨#[]⟩] 24))) #[.int .i64 1, .int .i32 r, .int .u8 0, .int .u8 0, .int .u8 0, .slice none 0 0, .string ⟨#[]⟩] 24 w3.heap.size (by rfl) (Box.new w3 24 #[.int .i64 1, .int .i32 r, .int .u8 0, .int .u8 0, .int .u8 0, .slice none 0 0, .string ⟨#[]⟩]).drew rfl (by simp [Value.oneCell']) (by omega) (by omega) (by simp; omega) ?_); intro v5 we hown5 hg5 hm5; have hX := Lib.hid (((Kept.refl [(Value.slice A5 m c5).ownBlock, (Value.slice A6 m c6).ownBlock] w3).alloc (.cells #[.int .i64 1, .int .i32 r, .int .u8 0, .int .u8 0, .int .u8 0, .slice none 0 0, .string ⟨#[]⟩] 24)).drew.grown hg5 (From.mem (by simp))); have HE5 := Lib.hid hown5; have HE6 := Lib.hid (own_beside (own_drew' (own_alloc' HQ6.out (.cells #[.int .i64 1, .int .i32 r, .int .u8 0, .int .u8 0, .int .u8 0, .slice none 0 0, .string ⟨#[]⟩] 24))) (own_drew' (own_alloc' HQ5.out (.cells #[.int .i64 1, .int .i32 r, .int .u8 0, .int .u8 0, .int .u8 0, .slice none 0 0, .string ⟨#[]⟩] 24))) (by decide) hg5); have hsE : w1.heap.size ≤ we.heap.size := Nat.le_trans HB3.out.size hX.out.size; have hAE := hX.out.alloc (.cells #[.int .i32 r] 21))
              | (refine (step_appB (by rfl) (.tmp 32) (.tmp 34) 36 (by rfl) w1.heap.size 24 i0 _ 7 56 Tryd.underlying36 hi hz0 hz1 hz2 zev_size (by omega) (.slice A5 m c5) m (mcells (prEvs rs)) (by rfl) (own_drew' (own_alloc' (own_alloc' HQ5.out (.cells #[.int .i64 1, .int .i32 r, .int .u8 0, .int .u8 0, .int .u8 0, .slice none 0 0, .string ⟨#[]⟩] 24)) (.cells #[.int .i32 r] 21))) #[.int .i64 1, .int .i32 r, .int .u8 0, .int .u8 0, .int .u8 0, .slice none 0 0, .string ⟨#[]⟩] 24 w3.heap.size (by rfl) ((Box.new w3 24 #[.int .i64 1, .int .i32 r, .int .u8 0, .int .u8 0, .int .u8 0, .slice none 0 0, .string ⟨#[]⟩]).alloc (.cells #[.int .i32 r] 21)).drew rfl (by simp [Value.oneCell']) (by omega) (by omega) (by simp; omega) ?_); intro v5 we hown5 hg5 hm5; have hX := Lib.hid ((((Kept.refl [(Value.slice A5 m c5).ownBlock, (Value.slice A6 m c6).ownBlock] w3).alloc (.cells #[.int .i64 1, .int .i32 r, .int .u8 0, .int .u8 0, .int .u8 0, .slice none 0 0, .string ⟨#[]⟩] 24)).alloc (.cells #[.int .i32 r] 21)).drew.grown hg5 (From.mem (by simp))); have HE5 := Lib.hid hown5; have HE6 := Lib.hid (own_beside (own_drew' (own_alloc' (own_alloc' HQ6.out (.cells #[.int .i64 1, .int .i32 r, .int .u8 0, .int .u8 0, .int .u8 0, .slice none 0 0, .string ⟨#[]⟩] 24)) (.cells #[.int .i32 r] 21))) (own_drew' (own_alloc' (own_alloc' HQ5.out (.cells #[.int .i64 1, .int .i32 r, .int .u8 0, .int .u8 0, .int .u8 0, .slice none 0 0, .string ⟨#[]⟩] 24)) (.cells #[.int .i32 r] 21))) (by decide) hg5); have hsE : w1.heap.size ≤ we.heap.size := Nat.le_trans HB3.out.size hX.out.size; have hAE := hX.out.alloc (.cells #[.int .i32 r] 21); have bfR := box_beside (Box.fresh (w := w3.alloc (.cells #[.int .i64 1, .int .i32 r, .int .u8 0, .int .u8 0, .int .u8 0, .slice none 0 0, .string ⟨#[]⟩] 24)) (t := 21) (cs := #[.int .i32 r]) (g := w3.heap.size + 1) (by simp)).drew (own_drew' (own_alloc' (own_alloc' HQ5.out (.cells #[.int .i64 1, .int .i32 r, .int .u8 0, .int .u8 0, .int .u8 0, .slice none 0 0, .string ⟨#[]⟩] 24)) (.cells #[.int .i32 r] 21))) (by decide) hg5)
              | (refine (step_appB (by rfl) (.tmp 32) (.tmp 34) 36 (by rfl) w1.heap.size 24 i0 _ 7 56 Tryd.underlying36 hi hz0 hz1 hz2 zev_size (by omega) (.slice A5 m c5) m (mcells (prEvs rs)) (by rfl) (own_drew' (own_alloc' (own_alloc' HQ5.out (.cells #[.int .i32 r] 21)) (.cells #[.int .i64 1, .int .i32 r, .int .u8 0, .int .u8 0, .int .u8 0, .slice none 0 0, .string ⟨#[]⟩] 24))) #[.int .i64 1, .int .i32 r, .int .u8 0, .int .u8 0, .int .u8 0, .slice none 0 0, .string ⟨#[]⟩] 24 (w3.heap.size + 1) (by rfl) (Box.fresh (w := w3.alloc (.cells #[.int .i32 r] 21)) (t := 24) (cs := #[.int .i64 1, .int .i32 r, .int .u8 0, .int .u8 0, .int .u8 0, .slice none 0 0, .string ⟨#[]⟩]) (g := w3.heap.size + 1) (by simp)).drew rfl (by simp [Value.oneCell']) (by omega) (by omega) (by simp; omega) ?_); intro v5 we hown5 hg5 hm5; have hX := Lib.hid ((((Kept.refl [(Value.slice A5 m c5).ownBlock, (Value.slice A6 m c6).ownBlock] w3).alloc (.cells #[.int .i32 r] 21)).alloc (.cells #[.int .i64 1, .int .i32 r, .int .u8 0, .int .u8 0, .int .u8 0, .slice none 0 0, .string ⟨#[]⟩] 24)).drew.grown hg5 (From.mem (by simp))); have HE5 := Lib.hid hown5; have HE6 := Lib.hid (own_beside (own_drew' (own_alloc' (own_alloc' HQ6.out (.cells #[.int .i32 r] 21)) (.cells #[.int .i64 1, .int .i32 r, .int .u8 0, .int .u8 0, .int .u8 0, .slice none 0 0, .string ⟨#[]⟩] 24))) (own_drew' (own_alloc' (own_alloc' HQ5.out (.cells #[.int .i32 r] 21)) (.cells #[.int .i64 1, .int .i32 r, .int .u8 0, .int .u8 0, .int .u8 0, .slice none 0 0, .string ⟨#[]⟩] 24))) (by decide) hg5); have hsE : w1.heap.size ≤ we.heap.size := Nat.le_trans HB3.out.size hX.out.size; have hAE := hX.out.alloc (.cells #[.int .i32 r] 21); have bfR := box_beside ((Box.new w3 21 #[.int .i32 r]).alloc (.cells #[.int .i64 1, .int .i32 r, .int .u8 0, .int .u8 0, .int .u8 0, .slice none 0 0, .string ⟨#[]⟩] 24)).drew (own_drew' (own_alloc' (own_alloc' HQ5.out (.cells #[.int .i32 r] 21)) (.cells #[.int .i64 1, .int .i32 r, .int .u8 0, .int .u8 0, .int .u8 0, .slice none 0 0, .string ⟨#[]⟩] 24))) (by decide) hg5)
              | (refine (step_appB (by rfl) (.tmp 36) (.tmp 41) 49 (by rfl) w1.heap.size 21 i1 _ 1 4 Tryd.underlying49 hj hy0 hy1 hy2 rfl (by omega) (.slice A6 m c6) m (i32s rs) (by rfl) (own_drew' (own_alloc' HQ6.out (.cells #[.int .i32 r] 21))) #[.int .i32 r] 21 w3.heap.size (by rfl) (Box.new w3 21 #[.int .i32 r]).drew rfl (by simp [Value.oneCell']) (by omega) (by omega) (by simp; omega) ?_); intro v6 wd hown6 hg6 hm6; have hX := Lib.hid (((Kept.refl [(Value.slice A5 m c5).ownBlock, (Value.slice A6 m c6).ownBlock] w3).alloc (.cells #[.int .i32 r] 21)).drew.grown hg6 (From.mem (by simp))); have HD6 := Lib.hid hown6; have HD5 := Lib.hid (own_beside (own_drew' (own_alloc' HQ5.out (.cells #[.int .i32 r] 21))) (own_drew' (own_alloc' HQ6.out (.cells #[.int .i32 r] 21))) (by decide) hg6); have hsD : w1.heap.size ≤ wd.heap.size := Nat.le_trans HB3.out.size hX.out.size; have hAD := hX.out.alloc (.cells #[.int .i64 1, .int .i32 r, .int .u8 0, .int .u8 0, .int .u8 0, .slice none 0 0, .string ⟨#[]⟩] 24))
              | (refine (step_appB (by rfl) (.tmp 36) (.tmp 41) 49 (by rfl) w1.heap.size 21 i1 _ 1 4 Tryd.underlying49 hj hy0 hy1 hy2 rfl (by omega) (.slice A6 m c6) m (i32s rs) (by rfl) (own_drew' (own_alloc' (own_alloc' HQ6.out (.cells #[.int .i32 r] 21)) (.cells #[.int .i64 1, .int .i32 r, .int .u8 0, .int .u8 0, .int .u8 0, .slice none 0 0, .string ⟨#[]⟩] 24))) #[.int .i32 r] 21 w3.heap.size (by rfl) ((Box.new w3 21 #[.int .i32 r]).alloc (.cells #[.int .i64 1, .int .i32 r, .int .u8 0, .int .u8 0, .int .u8 0, .slice none 0 0, .string ⟨#[]⟩] 24)).drew rfl (by simp [Value.oneCell']) (by omega) (by omega) (by simp; omega) ?_); intro v6 wd hown6 hg6 hm6; have hX := Lib.hid ((((Kept.refl [(Value.slice A5 m c5).ownBlock, (Value.slice A6 m c6).ownBlock] w3).alloc (.cells #[.int .i32 r] 21)).alloc (.cells #[.int .i64 1, .int .i32 r, .int .u8 0, .int .u8 0, .int .u8 0, .slice none 0 0, .string ⟨#[]⟩] 24)).drew.grown hg6 (From.mem (by simp))); have HD6 := Lib.hid hown6; have HD5 := Lib.hid (own_beside (own_drew' (own_alloc' (own_alloc' HQ5.out (.cells #[.int .i32 r] 21)) (.cells #[.int .i64 1, .int .i32 r, .int .u8 0, .int .u8 0, .int .u8 0, .slice none 0 0, .string ⟨#[]⟩] 24))) (own_drew' (own_alloc' (own_alloc' HQ6.out (.cells #[.int .i32 r] 21)) (.cells #[.int .i64 1, .int .i32 r, .int .u8 0, .int .u8 0, .int .u8 0, .slice none 0 0, .string ⟨#[]⟩] 24))) (by decide) hg6); have hsD : w1.heap.size ≤ wd.heap.size := Nat.le_trans HB3.out.size hX.out.size; have hAD := hX.out.alloc (.cells #[.int .i64 1, .int .i32 r, .int .u8 0, .int .u8 0, .int .u8 0, .slice none 0 0, .string ⟨#[]⟩] 24); have bfE := box_beside (Box.fresh (w := w3.alloc (.cells #[.int .i32 r] 21)) (t := 24) (cs := #[.int .i64 1, .int .i32 r, .int .u8 0, .int .u8 0, .int .u8 0, .slice none 0 0, .string ⟨#[]⟩]) (g := w3.heap.size + 1) (by simp)).drew (own_drew' (own_alloc' (own_alloc' HQ6.out (.cells #[.int .i32 r] 21)) (.cells #[.int .i64 1, .int .i32 r, .int .u8 0, .int .u8 0, .int .u8 0, .slice none 0 0, .string ⟨#[]⟩] 24))) (by decide) hg6)
              | (refine (step_appB (by rfl) (.tmp 36) (.tmp 41) 49 (by rfl) w1.heap.size 21 i1 _ 1 4 Tryd.underlying49 hj hy0 hy1 hy2 rfl (by omega) (.slice A6 m c6) m (i32s rs) (by rfl) (own_drew' (own_alloc' (own_alloc' HQ6.out (.cells #[.int .i64 1, .int .i32 r, .int .u8 0, .int .u8 0, .int .u8 0, .slice none 0 0, .string ⟨#[]⟩] 24)) (.cells #[.int .i32 r] 21))) #[.int .i32 r] 21 (w3.heap.size + 1) (by rfl) (Box.fresh (w := w3.alloc (.cells #[.int .i64 1, .int .i32 r, .int .u8 0, .int .u8 0, .int .u8 0, .slice none 0 0, .string ⟨#[]⟩] 24)) (t := 21) (cs := #[.int .i32 r]) (g := w3.heap.size + 1) (by simp)).drew rfl (by simp [Value.oneCell']) (by omega) (by omega) (by simp; omega) ?_); intro v6 wd hown6 hg6 hm6; have hX := Lib.hid ((((Kept.refl [(Value.slice A5 m c5).ownBlock, (Value.slice A6 m c6).ownBlock] w3).alloc (.cells #[.int .i64 1, .int .i32 r, .int .u8 0, .int .u8 0, .int .u8 0, .slice none 0 0, .string ⟨#[]⟩] 24)).alloc (.cells #[.int .i32 r] 21)).drew.grown hg6 (From.mem (by simp))); have HD6 := Lib.hid hown6; have HD5 := Lib.hid (own_beside (own_drew' (own_alloc' (own_alloc' HQ5.out (.cells #[.int .i64 1, .int .i32 r, .int .u8 0, .int .u8 0, .int .u8 0, .slice none 0 0, .string ⟨#[]⟩] 24)) (.cells #[.int .i32 r] 21))) (own_drew' (own_alloc' (own_alloc' HQ6.out (.cells #[.int .i64 1, .int .i32 r, .int .u8 0, .int .u8 0, .int .u8 0, .slice none 0 0, .string ⟨#[]⟩] 24)) (.cells #[.int .i32 r] 21))) (by decide) hg6); have hsD : w1.heap.size ≤ wd.heap.size := Nat.le_trans HB3.out.size hX.out.size; have hAD := hX.out.alloc (.cells #[.int .i64 1, .int .i32 r, .int .u8 0, .int .u8 0, .int .u8 0, .slice none 0 0, .string ⟨#[]⟩] 24); have bfE := box_beside ((Box.new w3 24 #[.int .i64 1, .int .i32 r, .int .u8 0, .int .u8 0, .int .u8 0, .slice none 0 0, .string ⟨#[]⟩]).alloc (.cells #[.int .i32 r] 21)).drew (own_drew' (own_alloc' (own_alloc' HQ6.out (.cells #[.int .i64 1, .int .i32 r, .int .u8 0, .int .u8 0, .int .u8 0, .slice none 0 0, .string ⟨#[]⟩] 24)) (.cells #[.int .i32 r] 21))) (by decide) hg6)
              | (refine (step_appB (by rfl) (.tmp 32) (.tmp 34) 36 (by rfl) w1.heap.size 24 i0 _ 7 56 Tryd.underlying36 hi hz0 hz1 hz2 zev_size (by omega) (.slice A5 m c5) m (mcells (prEvs rs)) (by rfl) (own_alloc' HD5.out (.cells #[.int .i64 1, .int .i32 r, .int .u8 0, .int .u8 0, .int .u8 0, .slice none 0 0, .string ⟨#[]⟩] 24)) #[.int .i64 1, .int .i32 r, .int .u8 0, .int .u8 0, .int .u8 0, .slice none 0 0, .string ⟨#[]⟩] 24 wd.heap.size (by rfl) (Box.new wd 24 #[.int .i64 1, .int .i32 r, .int .u8 0, .int .u8 0, .int .u8 0, .slice none 0 0, .string ⟨#[]⟩]) rfl (by simp [Value.oneCell']) (by omega) (by omega) (by simp; omega) ?_); intro v5 wf hown5 hg5 hm5; have hX := Lib.hid (hAD.grown hg5 (From.mem (by simp))); have HF5 := Lib.hid hown5; have HF6 := Lib.hid (own_beside (own_alloc' HD6.out (.cells #[.int .i64 1, .int .i32 r, .int .u8 0, .int .u8 0, .int .u8 0, .slice none 0 0, .string ⟨#[]⟩] 24)) (own_alloc' HD5.out (.cells #[.int .i64 1, .int .i32 r, .int .u8 0, .int .u8 0, .int .u8 0, .slice none 0 0, .string ⟨#[]⟩] 24)) (by decide) hg5))
              | (refine (step_appB (by rfl) (.tmp 32) (.tmp 34) 36 (by rfl) w1.heap.size 24 i0 _ 7 56 Tryd.underlying36 hi hz0 hz1 hz2 zev_size (by omega) (.slice A5 m c5) m (mcells (prEvs rs)) (by rfl) HD5.out #[.int .i64 1, .int .i32 r, .int .u8 0, .int .u8 0, .int .u8 0, .slice none 0 0, .string ⟨#[]⟩] 24 _ (by rfl) bfE rfl (by simp [Value.oneCell']) (by omega) (by omega) hsD ?_); intro v5 wf hown5 hg5 hm5; have hX := Lib.hid (hX.out.grown hg5 (From.mem (by simp))); have HF5 := Lib.hid hown5; have HF6 := Lib.hid (own_beside HD6.out HD5.out (by decide) hg5))
              | (refine (step_appB (by rfl) (.tmp 36) (.tmp 41) 49 (by rfl) w1.heap.size 21 i1 _ 1 4 Tryd.underlying49 hj hy0 hy1 hy2 rfl (by omega) (.slice A6 m c6) m (i32s rs) (by rfl) (own_alloc' HE6.out (.cells #[.int .i32 r] 21)) #[.int .i32 r] 21 we.heap.size (by rfl) (Box.new we 21 #[.int .i32 r]) rfl (by simp [Value.oneCell']) (by omega) (by omega) (by simp; omega) ?_); intro v6 wf hown6 hg6 hm6; have hX := Lib.hid (hAE.grown hg6 (From.mem (by simp))); have HF6 := Lib.hid hown6; have HF5 := Lib.hid (own_beside (own_alloc' HE5.out (.cells #[.int .i32 r] 21)) (own_alloc' HE6.out (.cells #[.int .i32 r] 21)) (by decide) hg6))
              | (refine (step_appB (by rfl) (.tmp 36) (.tmp 41) 49 (by rfl) w1.heap.size 21 i1 _ 1 4 Tryd.underlying49 hj hy0 hy1 hy2 rfl (by omega) (.slice A6 m c6) m (i32s rs) (by rfl) HE6.out #[.int .i32 r] 21 _ (by rfl) bfR rfl (by simp [Value.oneCell']) (by omega) (by omega) hsE ?_); intro v6 wf hown6 hg6 hm6; have hX := Lib.hid (hX.out.grown hg6 (From.mem (by simp))); have HF6 := Lib.hid hown6; have HF5 := Lib.hid (own_beside HE5.out HE6.out (by decide) hg6)))
          all_goals
            have R := hide (show ∃ k' : Nat, k' ≤ 12 ∧ k' ≤ n0 ∧ (Value.int .i64 ((k : Int) + 1)) = .int .i64 k' ∧ wf.ownsRow w1.heap.size 24 7 v5 (okRunes l0 k').length (mcells (prEvs (okRunes l0 k'))) ∧ wf.ownsRow w1.heap.size 21 1 v6 (okRunes l0 k').length (i32s (okRunes l0 k')) ∧ Below w1.heap.size w1 wf from
              ⟨k + 1, by omega, by omega, by go_num, by rw [HS.out, prEvs_snoc, mcells_app, List.length_append, HM.out]; exact HF5.out, by rw [HS.out, i32s_app, List.length_append, HM.out]; exact HF6.out, HB3.out.trans (hX.out.toBelow HB3.out.size (fun q hq => by
                simp only [List.mem_cons, List.not_mem_nil, or_false] at hq
                rcases hq with hq | hq
                · exact (HQ5.out.lt q hq.symm).1
                · exact (HQ6.out.lt q hq.symm).1))⟩)
            clear HF5 HF6 hX
            go_wp2_with fail
            go_roundw
            case rel => exact R.out
            case measure => simp [intOf]; omega
        · have hd1 : decide (PA.okRune r) = false := by simpa using hok
          rw [hd1]
          rw [if_neg hok, List.append_nil] at HS
          clear hd1 hok
          go_wp2_with fail
          go_roundw
          case rel => exact ⟨k + 1, by omega, by omega, by go_num, by rw [HS.out, HM.out]; exact HQ5.out, by rw [HS.out, HM.out]; exact HQ6.out, HB3.out⟩
          case measure => simp [intOf]; omega
  case rest =>
    obtain ⟨k, hk12, ho5, ho6, b1⟩ := hcut
    have hok := okRunes_ok l0 k
    have hol := okRunes_len l0 k
    generalize okRunes l0 k = rs at *
    obtain ⟨m, hm⟩ : ∃ m, rs.length = m := ⟨_, rfl⟩
    rw [hm] at ho5 ho6 hol
    obtain ⟨A5, c5, rfl, _⟩ := own_form' ho5
    obtain ⟨A6, c6, rfl, _⟩ := own_form' ho6
    have SE := hide (seenE_row ho5 (by simp [prEvs, hm]) (prEvs_par rs))
    have S6 := hide (Seen.of_own ho6)
    have B1 := hide (BB.out.trans (b1.mono BB.out.size))
    have BK1 := hide (BK.out.below b1 BK.out.lt)
    have HOK := hide hok
    have HM := hide hm
    have hm12 : m ≤ 12 := by omega
    have hPB : PA.bytesAll (printed (rs.map PA.pr)) = U.enc rs := by
      rw [printed_all (fun e he => by obtain ⟨r, hr, rfl⟩ := List.mem_map.1 he; exact pr_right (hok r hr))]
      exact bytesAll_runes rs hok
    have PB1 := hide hPB
    clear ho5 ho6 b1 hok hm hol hPB BB BK HAS
    go_wp2_with fail
    refine (print_is (n := m) (c := c5) (M := prEvs rs) (rs.map PA.pr) (U.enc rs) _ PB1.out rfl (by simp [prEvs]) SE.out (prEvs_fits rs) (by omega) (HT.out.keep B1.out)).mono ?_
    rintro e w2 ⟨A2, c2, rfl, _, h2, bb⟩
    have cv1 := conv_seen (c := c2) h2
    have cv2 := conv_runes (c := c6) (S6.out.below bb) HOK.out
    generalize (U.enc rs).length = nb at cv1 h2 ⊢
    generalize strOfNums (U.enc rs) = s1 at cv1 cv2
    have SE2 := hide (SE.out.kept bb)
    have B2 := hide (B1.out.trans (bb.mono B1.out.size))
    have BK2 := hide (BK1.out.below bb BK1.out.lt)
    obtain ⟨k0, k1, k2, k3, k4⟩ := Box.five BK2.out
    clear bb h2 SE S6 B1 BK1 PB1
    go_wp2_with fail
    refine (keepEvent_any kd rn fn Ap At np cp nt ct w2 lp lt KB.out.1 KB.out.2.1 KB.out.2.2 (HP.out.below B2.out) (HTx.out.below B2.out)).mono ?_
    have hkr := PA.keep_right kd rn fn lp lt
    generalize PA.keepEv kd rn fn lp lt = ev at hkr ⊢
    have HKR := hide hkr
    clear hkr
    rintro e w3 ⟨Ax, cx, rfl, hx, bb⟩
    have SE3 := hide (SE2.out.kept bb)
    have B3 := hide (B2.out.trans (bb.mono B2.out.size))
    have SX3 := hide hx
    clear bb hx SE2 B2 BK2 k0 k1 k2 k3 k4 cv1 cv2
    obtain ⟨e0, e1, e2, e3, e4, el, et⟩ := ev
    simp only [] at SX3 ⊢
    obtain ⟨nx, hnx⟩ : ∃ nx, el.length = nx := ⟨_, rfl⟩
    obtain ⟨sx, hsx⟩ : ∃ sx, strOfNums et = sx := ⟨_, rfl⟩
    rw [hnx] at SX3 ⊢
    rw [hsx]
    have HNX := hide hnx
    have HSX := hide hsx
    clear hnx hsx
    have hnx16 : nx ≤ 16 := by
      have := HKR.out
      rcases this with ⟨r, h, _⟩ | ⟨b, h, _⟩ | ⟨i, f, h, _⟩ | ⟨p, i, f, ps, h, _, _, _, _, hl, _⟩ | ⟨t, h, _⟩
      · have := congrArg PA.Ev.params h; simp [PA.pr] at this; have := HNX.out; subst_vars; simp at *
      · have := congrArg PA.Ev.params h; simp at this; have := HNX.out; subst_vars; simp at *
      · have := congrArg PA.Ev.params h; simp at this; have := HNX.out; subst_vars; simp at *
      · have := congrArg PA.Ev.params h; simp at this; have := HNX.out; subst_vars; omega
      · have := congrArg PA.Ev.params h; simp at this; have := HNX.out; subst_vars; simp at *
    go_upto_region 13 with fail
    have bx := Box.new w3 24 #[.int .i64 e0, .int .i32 e1, .int .u8 e2, .int .u8 e3, .int .u8 e4, .slice Ax nx cx, .string sx]
    have bb : Below w3.heap.size w3 (w3.alloc (.cells #[.int .i64 e0, .int .i32 e1, .int .u8 e2, .int .u8 e3, .int .u8 e4, .slice Ax nx cx, .string sx] 24)) := (Below.refl _ _).alloc (Nat.le_refl _) _
    generalize w3.alloc (.cells #[.int .i64 e0, .int .i32 e1, .int .u8 e2, .int .u8 e3, .int .u8 e4, .slice Ax nx cx, .string sx] 24) = w4 at bx bb ⊢
    have SE4 := hide (SE3.out.kept bb)
    have B4 := hide (B3.out.trans (bb.mono B3.out.size))
    have SX4 := hide ((SX3.out.below bb).more bb.size)
    have BX4 := hide bx
    generalize w3.heap.size = gX at BX4 ⊢
    clear bx bb SE3 B3 SX3
    obtain ⟨X, hX⟩ : ∃ X : PA.Ev × Value, ((⟨e0, e1, e2, e3, e4, el, et⟩ : PA.Ev), Value.slice Ax nx cx) = X := ⟨_, rfl⟩
    have HX := hide hX
    have hXc : ecells X.1 X.2 = [.int .i64 e0, .int .i32 e1, .int .u8 e2, .int .u8 e3, .int .u8 e4, .slice Ax nx cx, .string sx] := by rw [← hX, ← HSX.out]; rfl
    have HXC := hide hXc
    clear hX hXc
    go_wp2_with fail
    go_loopw [11, 54] (fun u i wr => ∃ j : Nat, j ≤ m ∧ i = .int .i64 j ∧ wr.ownsRow w4.heap.size 24 7 u (2 * j) (mcells (mixM rs X j)) ∧ Below w4.heap.size w4 wr) (fun _ i _ => m - (intOf i).toNat)
    case atStart => exact ⟨0, Nat.zero_le _, rfl, World.ownsRow_nil _ _ _ _, Below.refl _ _⟩
    case round =>
      obtain ⟨j, hjm, rfl, ho, b4⟩ := hrel
      by_cases hlt : j < m
      · obtain ⟨r, hrj⟩ : ∃ r, rs[j]? = some r := ⟨_, List.getElem?_eq_getElem (by rw [HM.out]; exact hlt)⟩
        have hq : (prEvs rs)[j]? = some (PA.pr r, .slice none 0 0) := by unfold prEvs; rw [List.getElem?_map, hrj]; rfl
        obtain ⟨gb, rfl, hgb, hcc, _⟩ := SE4.out.2 j _ hq
        have cb : ∀ i u, (ecells (PA.pr r) (.slice none 0 0))[i]? = some u → wr.cell? ⟨gb, j * 7 + i, none⟩ = some u := fun i u hu => (b4.cell (p := ⟨gb, j * 7 + i, none⟩) hgb).trans (hcc i u hu)
        have c0 : wr.cell? ⟨gb, j * 7, none⟩ = some (.int .i64 1) := cb 0 _ rfl
        have c1 : wr.cell? ⟨gb, j * 7 + 1, none⟩ = some (.int .i32 r) := cb 1 _ rfl
        have c2 : wr.cell? ⟨gb, j * 7 + 2, none⟩ = some (.int .u8 0) := cb 2 _ rfl
        have c3 : wr.cell? ⟨gb, j * 7 + 3, none⟩ = some (.int .u8 0) := cb 3 _ rfl
        have c4 : wr.cell? ⟨gb, j * 7 + 4, none⟩ = some (.int .u8 0) := cb 4 _ rfl
        have c5 : wr.cell? ⟨gb, j * 7 + 5, none⟩ = some (.slice none 0 0) := cb 5 _ rfl
        have c6 : wr.cell? ⟨gb, j * 7 + 6, none⟩ = some (.string ⟨#[]⟩) := cb 6 _ rfl
        have HS := hide (mixM_snoc (x := X) hrj)
        obtain ⟨k0, k1, k2, k3, k4, k5, k6⟩ := Box.seven (BX4.out.below b4 BX4.out.lt)
        have hgx : gX < wr.heap.size := Nat.lt_of_lt_of_le BX4.out.lt b4.size
        have hb4 := b4.size
        clear hq hcc cb hrj
        go_wp2_with (at_builtin; go_must (refine wpList_appS2 rfl (.tmp 58) (.tmp 61) 36 rfl w4.heap.size 24 i0 _ 7 56 Tryd.underlying36 hi hz0 hz1 hz2 zev_size (by omega) u11 (2 * j) _ rfl (own_alloc' ho _) #[.int .i64 1, .int .i32 r, .int .u8 0, .int .u8 0, .int .u8 0, .slice none 0 0, .string ⟨#[]⟩, .int .i64 e0, .int .i32 e1, .int .u8 e2, .int .u8 e3, .int .u8 e4, .slice Ax nx cx, .string sx] _ _ rfl rfl (by simp) (by simp [Value.oneCell']) (by omega) (by omega) (by simp; omega) ?_); intro v' w5 hown5 hg5 hm5)
        have hcs : mcells (mixM rs X j) ++ [.int .i64 1, .int .i32 r, .int .u8 0, .int .u8 0, .int .u8 0, .slice none 0 0, .string ⟨#[]⟩, .int .i64 e0, .int .i32 e1, .int .u8 e2, .int .u8 e3, .int .u8 e4, .slice Ax nx cx, .string sx] = mcells (mixM rs X (j + 1)) := by
          rw [HS.out, mcells_app]
          show _ = mcells (mixM rs X j) ++ (ecells (PA.pr r) (.slice none 0 0) ++ (ecells X.1 X.2 ++ []))
          rw [HXC.out]
          rfl
        have R := hide (show ∃ j' : Nat, j' ≤ m ∧ (Value.int .i64 ((j : Int) + 1)) = .int .i64 j' ∧ w5.ownsRow w4.heap.size 24 7 v' (2 * j') (mcells (mixM rs X j')) ∧ Below w4.heap.size w4 w5 from
          ⟨j + 1, by omega, by go_num, by rw [← hcs]; exact hown5, (b4.alloc b4.size _).trans (below_of_grown hg5 (by simp; omega) (fun g hg => (ho.lt g hg).1))⟩)
        clear hcs hown5 hg5 hm5
        go_roundw
        case rel => exact R.out
        case measure => simp [intOf]; omega
      · obtain rfl : j = m := by omega
        obtain ⟨A11, c11, rfl, _⟩ := own_form' ho
        have hml := mixM_len rs X j (by rw [HM.out]; omega)
        have hpar : ∀ p ∈ mixM rs X j, ParIn wr p := fun p hp => by
          rcases mixM_mem hp with rfl | ⟨r, _, rfl⟩
          · rw [← HX.out]
            exact ⟨Ax, cx, by simp [HNX.out], by rw [HNX.out]; exact ((SX4.out.below b4).more b4.size), by rw [HNX.out]; omega⟩
          · exact parIn_nil r
        have hfit : ∀ p ∈ mixM rs X j, EvFits p.1 := fun p hp => by
          rcases mixM_mem hp with rfl | ⟨r, _, rfl⟩
          · rw [← HX.out]
            exact evFits_right HKR.out
          · exact ⟨by simp [PA.pr], by simp [PA.pr]⟩
        have hrt : ∀ e ∈ (mixM rs X j).map (·.1), PA.Right e := fun e he => by
          obtain ⟨p, hp, rfl⟩ := List.mem_map.1 he
          rcases mixM_mem hp with rfl | ⟨r, hr, rfl⟩
          · rw [← HX.out]
            exact HKR.out
          · exact pr_right (HOK.out r hr)
        have SM := hide (seenE_row ho hml hpar)
        have B5 := hide (B4.out.trans (b4.mono B4.out.size))
        generalize hMM : mixM rs X j = MM at SM hml hfit hrt
        have hpp : PA.bytesAll (printed (MM.map (·.1))) = PA.bytesAll (MM.map (·.1)) := by rw [printed_all hrt]
        have hbl := bytesAll_len (MM.map (·.1)) hrt
        rw [List.length_map, hml] at hbl
        have hfd := PA.feed_all (MM.map (·.1)) hrt
        have hby : ∀ x ∈ PA.bytesAll (MM.map (·.1)), 0 ≤ x ∧ x < 256 := fun x hx => by
          obtain ⟨e, he, hx⟩ := List.mem_flatMap.1 hx
          exact PA.bytes_u8 (hrt e he) x hx
        have hpl : ∀ p ∈ MM, p.1.params.length ≤ 1024 := fun p hp => by
          obtain ⟨k, hk⟩ := List.getElem?_of_mem hp
          obtain ⟨_, _, _, _, _, _, _, _, h⟩ := SM.out.2 k p hk
          exact h
        have FACTS := hide (And.intro hpp (And.intro hbl (And.intro hfd (And.intro hby hpl))))
        have HFIT := hide hfit
        clear hpar hml hfit hrt hpp hbl hfd hby hpl hMM ho SX4 SE4 BX4 HX HXC
        go_wp2_with fail
        refine (new_any _).mono ?_
        rintro e w5 ⟨rfl, rfl⟩
        have hP := new_pb wr wr.heap.size (Nat.le_refl _)
        have bb : Below wr.heap.size wr (wr.alloc (.cells (pcells PA.s0 (.slice none 0 0) (.slice none 0 0)) 67)) := (Below.refl _ _).alloc (Nat.le_refl _) _
        have hsz : (wr.alloc (.cells (pcells PA.s0 (.slice none 0 0) (.slice none 0 0)) 67)).heap.size = wr.heap.size + 1 := by simp
        generalize wr.alloc (.cells (pcells PA.s0 (.slice none 0 0) (.slice none 0 0)) 67) = w5 at hP bb hsz ⊢
        have HPB := hide hP
        have BW5 := hide bb
        have HSZ := hide hsz
        clear hP bb hsz
        go_wp2_with fail
        have PRT := print_any A11 (2 * j) c11 MM w5 (SM.out.kept BW5.out) HFIT.out (by omega) (HT.out.keep (B5.out.trans (BW5.out.mono B5.out.size)))
        rw [FACTS.out.1] at PRT
        refine PRT.mono ?_
        clear PRT
        rintro e w6 ⟨v6, rfl, h6, bb⟩
        obtain ⟨nb6, hnb6⟩ : ∃ n, (PA.bytesAll (MM.map (·.1))).length = n := ⟨_, rfl⟩
        rw [hnb6] at h6
        have HNB := hide hnb6
        clear hnb6
        obtain ⟨A7, c7, rfl, _⟩ := own_form h6
        have HL := hide (show 0 < nb6 → ∀ ad, A7 = some ad → some ad.block ∉ [some wr.heap.size, (Value.slice none 0 0).ownBlock, (Value.slice none 0 0).ownBlock] from fun _ ad had => by
          subst had
          have h1 : (Value.slice (some ad) nb6 c7).ownBlock = some ad.block := own_block_some h6
          have := (h6.lt _ h1).1
          have := HSZ.out
          simp [Value.ownBlock]
          omega)
        have HS7 := hide (Seen.of_own h6)
        have BW6 := hide (BW5.out.trans (bb.mono BW5.out.size))
        have HPB6 := hide (HPB.out.below bb)
        clear bb h6 HPB
        go_wp2_with fail
        refine (feed_any wr.heap.size wr.heap.size PA.s0 (.slice none 0 0) (.slice none 0 0) A7 nb6 c7 (PA.bytesAll (MM.map (·.1))) w6 HPB6.out PA.s0_ok (by simp [PA.s0, PA.d0]) HS7.out FACTS.out.2.2.2.1 (by have := HNB.out; have := FACTS.out.2.1; omega) HL.out (by have := HTB.out.lt; have := B5.out.size; omega) (HTB.out.keep (B5.out.trans (BW6.out.mono B5.out.size)))).mono ?_
        intro e w7 hF
        rw [FACTS.out.2.2.1] at hF
        have bb := hF.below (C := wr.heap.size) (Nat.le_refl _) BW6.out.size
        have BW7 := hide (BW6.out.trans bb)
        obtain ⟨v7, vp', vt', M7, rfl, hM7, _, hown, hO, _⟩ := hF
        have hM7l : M7.length = 2 * j := by
          have := congrArg List.length hM7
          simp only [List.length_map] at this
          rw [this]
          exact SM.out.1
        obtain ⟨A8, c8, rfl, _⟩ := own_form' hown
        have SE7 := hide (seenE_of hown hO (fun p hp => by
          have hm : p.1 ∈ M7.map (·.1) := List.mem_map.2 ⟨p, hp, rfl⟩
          rw [hM7] at hm
          obtain ⟨p', hp', e⟩ := List.mem_map.1 hm
          rw [← e]
          exact FACTS.out.2.2.2.2 p' hp'))
        rw [hM7l] at SE7 ⊢
        have HM7 := hide hM7
        clear hM7 hM7l hown hO bb HPB6 HS7 HL
        go_wp2_with fail
        refine (events_any A8 A11 (2 * j) c8 c11 M7 MM w7 SE7.out (SM.out.kept BW7.out) HM7.out (by omega)).mono ?_
        rintro e w8 ⟨rfl, bb⟩
        have BW8 := hide ((B5.out.trans (BW7.out.mono B5.out.size)).trans (bb.mono (by have := BW7.out.size; have := B5.out.size; omega)))
        clear bb SE7 SM BW5 BW6 BW7
        go_wp2_with fail
        refine (seqRuns_any w8 (HT.out.keep BW8.out)).mono ?_
        rintro e w9 ⟨rfl, bb⟩
        have BW9 := hide (BW8.out.trans (bb.mono BW8.out.size))
        clear bb
        go_wp2_with fail
        go_ret
        exact ⟨rfl, BW9.out⟩
end Go.Proofs.YtnnjppgmadmmaaaDoor
