/- SeqBack: events printed one behind the other are parsed to the same; two have the same bytes just if they are the same. -/
import Derived.Test.YtnnjppgmadmmaaaDoorSeqRuns
import Derived.Test.YtnnjppgmadmmaaaDoorKeepEvent
import Derived.Test.YtnnjppgmadmmaaaDoorSeqRune
import Derived.Test.YtnnjppgmadmmaaaDoorStepBox
import Derived.Test.YtnnjppgmadmmaaaDoorBeside
import Derived.Test.YtnnjppgmadmmaaaDoorEventsB
import Derived.Test.YtnnjppgmadmmaaaDoorAnyOrder
import Derived.Test.YtnnjppgmadmmaaaDoorPairEv
import Derived.Test.YtnnjppgmadmmaaaDoorSeqText
import Derived.Deep.DeepCutAuto
import Derived.Deep.CutBlock
import Derived.Deep.RegionHeld3
set_option maxRecDepth 100000
namespace Go.Proofs.YtnnjppgmadmmaaaDoor
open Go.RowKit
set_option linter.unusedVariables false
/-- linguistkeep's events of numbers, one behind the other in memory -/
structure KArg (w : World) (kd rn fn : Int) (Ap : Option Addr) (np cp : Nat) (lp : List Int) (At : Option Addr) (nt ct : Nat) (lt : List Int) : Prop where
  hk : -9223372036854775808 ≤ kd ∧ kd ≤ 9223372036854775807
  hr : -9223372036854775808 ≤ rn ∧ rn ≤ 9223372036854775807
  hf : -9223372036854775808 ≤ fn ∧ fn ≤ 9223372036854775807
  hP : Arg .i64 w Ap np cp lp
  hT : Arg .u8 w At nt ct lt
theorem KArg.below {w w' : World} {kd rn fn : Int} {Ap : Option Addr} {np cp : Nat} {lp : List Int} {At : Option Addr} {nt ct : Nat} {lt : List Int} (h : KArg w kd rn fn Ap np cp lp At nt ct lt) (b : Below w.heap.size w w') : KArg w' kd rn fn Ap np cp lp At nt ct lt :=
  ⟨h.hk, h.hr, h.hf, h.hP.below b, h.hT.below b⟩
def KArgs (w : World) (A : Option Addr) (n : Nat) : Prop :=
  ∀ i, i < n → ∃ (ad : Addr) (kd rn fn : Int) (Ap : Option Addr) (np cp : Nat) (lp : List Int) (At : Option Addr) (nt ct : Nat) (lt : List Int), A = some ad ∧ ad.block < w.heap.size ∧
    w.cell? (ad.add (i * 5)) = some (.int .i64 kd) ∧ w.cell? ⟨(ad.add (i * 5)).block, (ad.add (i * 5)).off + 1, none⟩ = some (.int .i64 rn) ∧ w.cell? ⟨(ad.add (i * 5)).block, (ad.add (i * 5)).off + 2, none⟩ = some (.int .i64 fn) ∧ w.cell? ⟨(ad.add (i * 5)).block, (ad.add (i * 5)).off + 3, none⟩ = some (.slice Ap np cp) ∧ w.cell? ⟨(ad.add (i * 5)).block, (ad.add (i * 5)).off + 4, none⟩ = some (.slice At nt ct) ∧
    KArg w kd rn fn Ap np cp lp At nt ct lt
theorem KArgs.below {w w' : World} {A : Option Addr} {n : Nat} (h : KArgs w A n) (b : Below w.heap.size w w') : KArgs w' A n := fun i hi => by
  obtain ⟨ad, kd, rn, fn, Ap, np, cp, lp, At, nt, ct, lt, h1, h2, c0, c1, c2, c3, c4, hk⟩ := h i hi
  have cz : w'.cell? (ad.add (i * 5)) = w.cell? (ad.add (i * 5)) := b.cell (p := ad.add (i * 5)) (by rw [addBlock]; exact h2)
  have cc : ∀ j, w'.cell? ⟨(ad.add (i * 5)).block, j, none⟩ = w.cell? ⟨(ad.add (i * 5)).block, j, none⟩ := fun j => b.cell (p := ⟨(ad.add (i * 5)).block, j, none⟩) (by show (ad.add (i * 5)).block < _; rw [addBlock]; exact h2)
  exact ⟨ad, kd, rn, fn, Ap, np, cp, lp, At, nt, ct, lt, h1, Nat.lt_of_lt_of_le h2 b.size, cz.trans c0, (cc _).trans c1, (cc _).trans c2, (cc _).trans c3, (cc _).trans c4, hk.below b⟩
/-- the events made so far: right, their parameters where they are said to be -/
def EvsR (w : World) (M : List (PA.Ev × Value)) : Prop := ∀ p ∈ M, ParIn w p ∧ PA.Right p.1
theorem EvsR.below {w w' : World} {M : List (PA.Ev × Value)} (h : EvsR w M) (b : Below w.heap.size w w') : EvsR w' M := fun p hp => ⟨(h p hp).1.below b, (h p hp).2⟩
theorem right_params {e : PA.Ev} (h : PA.Right e) : e.params.length ≤ 16 := by
  rcases h with ⟨r, rfl, _⟩ | ⟨b, rfl, _⟩ | ⟨i, f, rfl, _⟩ | ⟨p, i, f, ps, rfl, _, _, _, _, hl, _⟩ | ⟨t, rfl, _⟩
  · simp [PA.pr]
  · simp
  · simp
  · exact hl
  · simp
def BackRow (w1 : World) (k : Nat) (u : Value) (wr : World) : Prop :=
  ∃ M : List (PA.Ev × Value), M.length = k ∧ EvsR wr M ∧ (∀ p ∈ M, Clear p u.ownBlock) ∧ wr.ownsRow w1.heap.size 24 7 u k (mcells M) ∧ Below w1.heap.size w1 wr
/-- two events that were made, each in a block of its own -/
def TwoMade (X Y : PA.Ev) (w0 : World) (a b : Value) (w : World) : Prop :=
  ∃ g1 g2 u v, a = .pointer (some ⟨g1, 0, none⟩) ∧ b = .pointer (some ⟨g2, 0, none⟩) ∧ Box w g1 24 (ecells X u).toArray ∧ Box w g2 24 (ecells Y v).toArray ∧ ParIn w (X, u) ∧ ParIn w (Y, v) ∧ Fresh w0 u ∧ Fresh w0 v ∧ w0.heap.size ≤ g1 ∧ w0.heap.size ≤ g2 ∧ Below w0.heap.size w0 w
theorem PairJ.two {X Y : PA.Ev} {ax ay : Value} {w0 w : World} {L : Nat → Bool} {u : Nat → Value} (h : PairJ X Y ax ay w0 L u w) (hL : ∀ j, j < 8 → L j = true) : TwoMade X Y w0 (u 4) (u 5) w := by
  obtain ⟨e4, e1, g, v, h1, h2, h3⟩ := h.s6 (hL 6 (by omega))
  obtain ⟨e5, e3, g', v', k1, k2, k3⟩ := h.s7 (hL 7 (by omega))
  obtain ⟨x, x1, x2, x3⟩ := h.c1 e1
  obtain ⟨y, y1, y2, y3⟩ := h.c3 e3
  obtain rfl := evV_inj (h2.symm.trans x1)
  obtain rfl := evV_inj (k2.symm.trans y1)
  obtain ⟨p, _, p1, p2, _⟩ := h.a4 e4
  obtain ⟨q, _, q1, q2, _⟩ := h.a5 e5
  rw [h1] at p1; cases p1
  rw [k1] at q1; cases q1
  exact ⟨g, g', v, v', h1, k1, h3, k3, x2, y2, x3, y3, p2, q2, h.below⟩
/-- the region's own: what is known of its world beside what its operations left -/
def BackBase (gP : Nat) (wc : World) (L : Nat → Bool) (w : World) : Prop := Kept [some gP] wc w ∧ (L 3 = false → PB w gP gP PA.s0 (.slice none 0 0) (.slice none 0 0))
def BackEv (gP : Nat) (i : Nat) (w w' : World) : Prop := if i = 3 then Kept [some gP] w w' else Below w.heap.size w w'
def BytesAt (gP : Nat) (bs : List Int) (v : Value) (w : World) : Prop := ∃ A c, v = .slice A bs.length c ∧ Seen w w.heap.size A bs.length (u8s bs) ∧ ∀ ad, A = some ad → ad.block ≠ gP
def OneAt (gP : Nat) (X : PA.Ev) (u v : Value) (w : World) : Prop := ∃ g, v = .slice (some ⟨g, 0, none⟩) 1 1 ∧ Box w g 24 (ecells X u).toArray ∧ g ≠ gP
def FedAt (gP k : Nat) (es : List PA.Ev) (v : Value) (w : World) : Prop := ∃ A c M', v = .slice A k c ∧ SeenE w A k M' ∧ M'.map (·.1) = es ∧ ∃ vp vt, PB w gP gP PA.s0 vp vt
def backCst (gP : Nat) (ves : Value) (X Y : PA.Ev) (uX uY : Value) (bq : Bool) (j : Nat) : Value :=
  if j ∈ [0, 7] then .pointer (some ⟨gP, 0, none⟩) else if j ∈ [1, 4] then ves else if j ∈ [11, 18, 26, 29] then evV X uX else if j ∈ [14, 20, 27, 31] then evV Y uY else if j ∈ [17, 22, 28, 33] then .bool bq else .bool true
def BackPhi (gP k : Nat) (ves : Value) (es : List PA.Ev) (bs bsX bsY : List Int) (X Y : PA.Ev) (uX uY : Value) (bq : Bool) (j : Nat) (v : Value) (w : World) : Prop :=
  if j = 2 then BytesAt gP bs v w else if j = 3 then FedAt gP k es v w else if j = 13 then BytesAt gP bsX v w else if j = 16 then BytesAt gP bsY v w
  else if j ∈ [12, 19, 30] then OneAt gP X uX v w else if j ∈ [15, 21, 32] then OneAt gP Y uY v w else v = backCst gP ves X Y uX uY bq j
theorem BackEv.kept {gP i : Nat} {w w' : World} (h : BackEv gP i w w') : Kept [some gP] w w' := by
  unfold BackEv at h
  split at h
  · exact h
  · exact Kept.of_below h
theorem BackEv.below {gP i : Nat} {w w' : World} (h : BackEv gP i w w') (hi : i ≠ 3) : Below w.heap.size w w' := by
  unfold BackEv at h
  rwa [if_neg hi] at h
theorem BackBase.step {gP i : Nat} {wc w w' : World} {L : Nat → Bool} (hL : L i = false) (h : BackBase gP wc L w) (e : BackEv gP i w w') : BackBase gP wc (mark L i) w' := by
  refine ⟨h.1.trans e.kept (by intro x hx; exact From.mem hx), fun h3 => ?_⟩
  by_cases hi : i = 3
  · subst hi
    rw [mark_self] at h3
    cases h3
  · rw [mark_at (Ne.symm hi)] at h3
    exact (h.2 h3).below (e.below hi)
theorem BytesAt.kept {gP : Nat} {bs : List Int} {v : Value} {w w' : World} (h : BytesAt gP bs v w) (k : Kept [some gP] w w') : BytesAt gP bs v w' := by
  obtain ⟨A, c, h1, h2, h3⟩ := h
  exact ⟨A, c, h1, h2.keptK k (fun ad ha => by simpa using h3 ad ha), h3⟩
theorem OneAt.kept {gP : Nat} {X : PA.Ev} {u v : Value} {w w' : World} (h : OneAt gP X u v w) (k : Kept [some gP] w w') : OneAt gP X u v w' := by
  obtain ⟨g, h1, h2, h3⟩ := h
  exact ⟨g, h1, h2.kept k (by simpa using h3), h3⟩
theorem BackPhi.step {gP k : Nat} {ves : Value} {es : List PA.Ev} {bs bsX bsY : List Int} {X Y : PA.Ev} {uX uY : Value} {bq : Bool} {i j : Nat} {v : Value} {w w' : World} (hne : i ≠ j) (h : BackPhi gP k ves es bs bsX bsY X Y uX uY bq j v w) (e : BackEv gP i w w') : BackPhi gP k ves es bs bsX bsY X Y uX uY bq j v w' := by
  unfold BackPhi at *
  by_cases h2 : j = 2
  · rw [if_pos h2] at *; exact h.kept e.kept
  rw [if_neg h2] at *
  by_cases h3 : j = 3
  · rw [if_pos h3] at *
    obtain ⟨A, c, M', a1, a2, a3, vp, vt, a4⟩ := h
    have b := e.below (by omega)
    exact ⟨A, c, M', a1, a2.kept b, a3, vp, vt, a4.below b⟩
  rw [if_neg h3] at *
  by_cases h4 : j = 13
  · rw [if_pos h4] at *; exact h.kept e.kept
  rw [if_neg h4] at *
  by_cases h5 : j = 16
  · rw [if_pos h5] at *; exact h.kept e.kept
  rw [if_neg h5] at *
  by_cases h6 : j ∈ [12, 19, 30]
  · rw [if_pos h6] at *; exact h.kept e.kept
  rw [if_neg h6] at *
  by_cases h7 : j ∈ [15, 21, 32]
  · rw [if_pos h7] at *; exact h.kept e.kept
  rw [if_neg h7] at *
  exact h
theorem cases40 {p : Nat → Prop} (h : p 0 ∧ p 1 ∧ p 2 ∧ p 3 ∧ p 4 ∧ p 5 ∧ p 6 ∧ p 7 ∧ p 8 ∧ p 9 ∧ p 10 ∧ p 11 ∧ p 12 ∧ p 13 ∧ p 14 ∧ p 15 ∧ p 16 ∧ p 17 ∧ p 18 ∧ p 19 ∧ p 20 ∧ p 21 ∧ p 22 ∧ p 23 ∧ p 24 ∧ p 25 ∧ p 26 ∧ p 27 ∧ p 28 ∧ p 29 ∧ p 30 ∧ p 31 ∧ p 32 ∧ p 33 ∧ p 34 ∧ p 35 ∧ p 36 ∧ p 37 ∧ p 38 ∧ p 39) : ∀ i, i < 40 → p i := by
  obtain ⟨h0, h1, h2, h3, h4, h5, h6, h7, h8, h9, h10, h11, h12, h13, h14, h15, h16, h17, h18, h19, h20, h21, h22, h23, h24, h25, h26, h27, h28, h29, h30, h31, h32, h33, h34, h35, h36, h37, h38, h39⟩ := h
  intro i hi
  match i, hi with
  | 0, _ => exact h0
  | 1, _ => exact h1
  | 2, _ => exact h2
  | 3, _ => exact h3
  | 4, _ => exact h4
  | 5, _ => exact h5
  | 6, _ => exact h6
  | 7, _ => exact h7
  | 8, _ => exact h8
  | 9, _ => exact h9
  | 10, _ => exact h10
  | 11, _ => exact h11
  | 12, _ => exact h12
  | 13, _ => exact h13
  | 14, _ => exact h14
  | 15, _ => exact h15
  | 16, _ => exact h16
  | 17, _ => exact h17
  | 18, _ => exact h18
  | 19, _ => exact h19
  | 20, _ => exact h20
  | 21, _ => exact h21
  | 22, _ => exact h22
  | 23, _ => exact h23
  | 24, _ => exact h24
  | 25, _ => exact h25
  | 26, _ => exact h26
  | 27, _ => exact h27
  | 28, _ => exact h28
  | 29, _ => exact h29
  | 30, _ => exact h30
  | 31, _ => exact h31
  | 32, _ => exact h32
  | 33, _ => exact h33
  | 34, _ => exact h34
  | 35, _ => exact h35
  | 36, _ => exact h36
  | 37, _ => exact h37
  | 38, _ => exact h38
  | 39, _ => exact h39
  | n + 40, h => exact absurd h (by omega)
theorem BackEv.of {gP i : Nat} {w w' : World} (hi : i ≠ 3) (h : Below w.heap.size w w') : BackEv gP i w w' := by unfold BackEv; rwa [if_neg hi]
theorem BackEv.fed {gP : Nat} {w w' : World} (h : Kept [some gP] w w') : BackEv gP 3 w w' := by unfold BackEv; rwa [if_pos rfl]
section
variable {gP k : Nat} {ves : Value} {es : List PA.Ev} {bs bsX bsY : List Int} {X Y : PA.Ev} {uX uY : Value} {bq : Bool} {j : Nat} {v : Value} {w : World}
theorem BackPhi.two : BackPhi gP k ves es bs bsX bsY X Y uX uY bq 2 v w ↔ BytesAt gP bs v w := by simp [BackPhi]
theorem BackPhi.three : BackPhi gP k ves es bs bsX bsY X Y uX uY bq 3 v w ↔ FedAt gP k es v w := by simp [BackPhi]
theorem BackPhi.bX : BackPhi gP k ves es bs bsX bsY X Y uX uY bq 13 v w ↔ BytesAt gP bsX v w := by simp [BackPhi]
theorem BackPhi.bY : BackPhi gP k ves es bs bsX bsY X Y uX uY bq 16 v w ↔ BytesAt gP bsY v w := by simp [BackPhi]
theorem BackPhi.oneX (hj : j ∈ [12, 19, 30]) : BackPhi gP k ves es bs bsX bsY X Y uX uY bq j v w ↔ OneAt gP X uX v w := by
  have : j = 12 ∨ j = 19 ∨ j = 30 := by simpa using hj
  rcases this with rfl | rfl | rfl <;> simp [BackPhi]
theorem BackPhi.oneY (hj : j ∈ [15, 21, 32]) : BackPhi gP k ves es bs bsX bsY X Y uX uY bq j v w ↔ OneAt gP Y uY v w := by
  have : j = 15 ∨ j = 21 ∨ j = 32 := by simpa using hj
  rcases this with rfl | rfl | rfl <;> simp [BackPhi]
theorem BackPhi.at_ (hj : j ∉ [2, 3, 13, 16, 12, 19, 30, 15, 21, 32]) : BackPhi gP k ves es bs bsX bsY X Y uX uY bq j v w ↔ v = backCst gP ves X Y uX uY bq j := by
  simp only [List.mem_cons, List.not_mem_nil, or_false, not_or] at hj
  obtain ⟨a, b, c, d, e, f, g, h, i, l⟩ := hj
  simp [BackPhi, a, b, c, d, e, f, g, h, i, l]
theorem BackPhi.val (h : BackPhi gP k ves es bs bsX bsY X Y uX uY bq j v w) (hj : j ∉ [2, 3, 13, 16, 12, 19, 30, 15, 21, 32]) {c : Value} (hc : backCst gP ves X Y uX uY bq j = c) : v = c := ((BackPhi.at_ hj).1 h).trans hc
theorem BackPhi.put (hj : j ∉ [2, 3, 13, 16, 12, 19, 30, 15, 21, 32]) (hc : backCst gP ves X Y uX uY bq j = v) : BackPhi gP k ves es bs bsX bsY X Y uX uY bq j v w := (BackPhi.at_ hj).2 hc.symm
end
theorem encoded_at {gP : Nat} {bs : List Int} {w w' : World} {e : Ending} (h : Encoded w bs e w') (hg : gP < w.heap.size) : ∃ v, e = .returned v ∧ Below w.heap.size w w' ∧ BytesAt gP bs v w' := by
  obtain ⟨v, he, ho, hb⟩ := h
  obtain ⟨A, c, rfl, _⟩ := own_form ho
  exact ⟨_, he, hb, A, c, rfl, Seen.of_own ho, fun ad ha => by have := own_ge ho ad ha; omega⟩
set_option maxHeartbeats 16000000 in
theorem seqBack_core (A0 : Option Addr) (n0 c0 : Nat) (kd rn fn : Int) (Ap At : Option Addr) (np cp nt ct : Nat) (lp lt : List Int) (kd' rn' fn' : Int) (Ap' At' : Option Addr) (np' cp' nt' ct' : Nat) (lp' lt' : List Int) (w : World) (hA : KArgs w A0 n0) (hn0 : n0 ≤ maxLen) (hX : KArg w kd rn fn Ap np cp lp At nt ct lt) (hY : KArg w kd' rn' fn' Ap' np' cp' lp' At' nt' ct' lt') (ht : Tens w) (htab : Tabs w) :
    Calls Tryd.prog 5 #[.slice A0 n0 c0, .agg #[.int .i64 kd, .int .i64 rn, .int .i64 fn, .slice Ap np cp, .slice At nt ct], .agg #[.int .i64 kd', .int .i64 rn', .int .i64 fn', .slice Ap' np' cp', .slice At' nt' ct']] w fun e w' => e = .returned (.bool true) ∧ Below w.heap.size w w' := by
  obtain ⟨i0, hi, hz0, hz1, hz2⟩ := info_parts info_ev
  unfold maxLen at hn0
  have HA := hide hA
  have HX := hide hX
  have HY := hide hY
  have HT := hide ht
  have HTB := hide htab
  clear hA hX hY ht htab
  go_enter Tryd.func5, Tryd.ntmps5
  go_upto_region 1 with fail
  have bX := (Box.new w 33 #[.int .i64 kd, .int .i64 rn, .int .i64 fn, .slice Ap np cp, .slice At nt ct]).alloc (.cells #[.int .i64 kd', .int .i64 rn', .int .i64 fn', .slice Ap' np' cp', .slice At' nt' ct'] 33)
  have bY := Box.fresh (w := w.alloc (.cells #[.int .i64 kd, .int .i64 rn, .int .i64 fn, .slice Ap np cp, .slice At nt ct] 33)) (t := 33) (cs := #[.int .i64 kd', .int .i64 rn', .int .i64 fn', .slice Ap' np' cp', .slice At' nt' ct']) (g := w.heap.size + 1) (by simp)
  have bb : Below w.heap.size w ((w.alloc (.cells #[.int .i64 kd, .int .i64 rn, .int .i64 fn, .slice Ap np cp, .slice At nt ct] 33)).alloc (.cells #[.int .i64 kd', .int .i64 rn', .int .i64 fn', .slice Ap' np' cp', .slice At' nt' ct'] 33)) := ((Below.refl _ _).alloc (Nat.le_refl _) _).alloc (by simp) _
  generalize (w.alloc (.cells #[.int .i64 kd, .int .i64 rn, .int .i64 fn, .slice Ap np cp, .slice At nt ct] 33)).alloc (.cells #[.int .i64 kd', .int .i64 rn', .int .i64 fn', .slice Ap' np' cp', .slice At' nt' ct'] 33) = w1 at bX bY bb ⊢
  have BB := hide bb
  have BX := hide bX
  have BY := hide bY
  generalize w.heap.size + 1 = gY at BY ⊢
  obtain ⟨gX, hgX⟩ : ∃ gX, w.heap.size = gX := ⟨_, rfl⟩
  rw [hgX] at BX
  rw [hgX]
  have KA1 := hide (HA.out.below bb)
  clear bb bX bY hgX HA
  go_upto_block 0 with fail
  go_cut [7] (fun u wx => ∃ k : Nat, k ≤ 12 ∧ Hid (BackRow w1 k u wx))
  case first =>
    go_wp2_with fail
    go_loopw [7, 8] (fun u i wr => ∃ k : Nat, k ≤ 12 ∧ k ≤ n0 ∧ i = .int .i64 k ∧ Hid (BackRow w1 k u wr)) (fun _ i _ => 12 - (intOf i).toNat)
    case atStart => exact ⟨0, by omega, Nat.zero_le _, rfl, hide (show BackRow w1 0 (.slice none 0 0) w1 from ⟨[], rfl, fun p hp => (by cases hp), fun p hp => (by cases hp), World.ownsRow_nil _ _ _ _, Below.refl _ _⟩)⟩
    case round =>
      obtain ⟨k, hk12, hkn, rfl, HR⟩ := hrel
      have cs : n0 ≤ k ∨ (k < n0 ∧ 12 ≤ k) ∨ (k < n0 ∧ k < 12) := by omega
      rcases cs with a | ⟨a, a'⟩ | ⟨a, a'⟩
      · go_wp2_with fail
        go_meet
        exact ⟨k, hk12, HR⟩
      · go_wp2_with fail
        go_meet
        exact ⟨k, hk12, HR⟩
      · obtain ⟨M, hM, hE, hC, ho, b1⟩ := HR.out
        obtain ⟨ad, kd, rn, fn, Ap, np, cp, lp, At, nt, ct, lt, rfl, had, q0, q1, q2, q3, q4, hk⟩ := (KA1.out.below b1) k a
        obtain ⟨A7, c7, rfl, _, _, hlt7⟩ := own_form' ho
        have HC := hide hC
        have H7 := hide hlt7
        have HO := hide ho
        have HM := hide hM
        have HE := hide hE
        have B1 := hide b1
        have KE := keepNew_any kd rn fn Ap At np cp nt ct wr lp lt hk.hk hk.hr hk.hf hk.hP hk.hT
        have hkr := PA.keep_right kd rn fn lp lt
        generalize PA.keepEv kd rn fn lp lt = ev at hkr KE
        have HKR := hide hkr
        clear hk ho hM hE hC hlt7 b1 hkr HR
        go_wp2_with fail
        refine KE.mono ?_
        rintro e w2 ⟨Ax, cx, rfl, hx, bb, hnw⟩
        have bR := right_params HKR.out
        obtain ⟨e0, e1, e2, e3, e4, el, et⟩ := ev
        simp only [] at hx bR ⊢
        have PX := hide (show ParIn w2 (⟨e0, e1, e2, e3, e4, el, et⟩, .slice Ax el.length cx) from ⟨Ax, cx, rfl, hx, by simp only []; omega⟩)
        have CX := hide (show Clear (⟨e0, e1, e2, e3, e4, el, et⟩, .slice Ax el.length cx) (Value.slice A7 k c7).ownBlock from fun h0 ad n c hp he => by
          injection hp with h1 _ _
          have h2 := hnw ad h1
          have h3 := (H7.out _ he).2
          omega)
        obtain ⟨nx, hnx⟩ : ∃ nx, el.length = nx := ⟨_, rfl⟩
        obtain ⟨sx, hsx⟩ : ∃ sx, strOfNums et = sx := ⟨_, rfl⟩
        rw [hnx] at PX CX ⊢
        rw [hsx]
        have HSX := hide hsx
        have HO2 := hide (own_kept HO.out (Kept.of_below (L := []) bb) (by simp))
        have HE2 := hide (HE.out.below bb)
        have B2 := hide (B1.out.trans (bb.mono B1.out.size))
        have hb2 := B2.out.size
        clear hx hnw bb hsx hnx HO HE H7 bR q0 q1 q2 q3 q4
        go_wp2_with (at_builtin; refine wpList_appS rfl (.tmp 22) (.tmp 28) 36 rfl w1.heap.size 24 i0 _ 7 56 Tryd.underlying36 hi hz0 hz1 hz2 zev_size (by omega) (.slice A7 k c7) k _ rfl HO2.out _ _ _ rfl rfl rfl (by intro u hu; simp at hu; (repeat' (first | (rcases hu with rfl | hu) | subst hu)) <;> rfl) (by omega) (by omega) (by omega) ?_; intro v' w3 hown3 hg3 hm3)
        have R := hide (show BackRow w1 (k + 1) v' w3 from by
          refine ⟨M ++ [(⟨e0, e1, e2, e3, e4, el, et⟩, .slice Ax nx cx)], by rw [List.length_append, HM.out]; rfl, fun p hp => ?_, fun p hp => ?_, ?_, B2.out.trans (below_of_grown hg3 B2.out.size (fun g hg => (HO2.out.lt g hg).1))⟩
          · rcases List.mem_append.1 hp with hp | hp
            · exact ⟨(HE2.out p hp).1.grown hg3 (HC.out p hp), (HE2.out p hp).2⟩
            · rw [List.mem_singleton.1 hp]; exact ⟨PX.out.grown hg3 CX.out, HKR.out⟩
          · rcases List.mem_append.1 hp with hp | hp
            · exact (HC.out p hp).moved (w' := w3) (HE2.out p hp).1 hm3
            · rw [List.mem_singleton.1 hp]; exact CX.out.moved (w' := w3) PX.out hm3
          · rw [mcells_app, mcells_one]
            show w3.ownsRow _ _ _ _ _ (_ ++ [.int .i64 e0, .int .i32 e1, .int .u8 e2, .int .u8 e3, .int .u8 e4, .slice Ax nx cx, .string (strOfNums et)])
            rw [HSX.out]
            exact hown3)
        clear hown3 hg3 hm3
        go_roundw
        case rel => exact ⟨k + 1, by omega, by omega, by go_num, R⟩
        case measure => simp [intOf]; omega
  case rest =>
    rename World => w4
    obtain ⟨k, hk12, HR⟩ := hcut
    obtain ⟨M, hM, hE, hC, ho, b1⟩ := HR.out
    obtain ⟨A7, c7, rfl, _⟩ := own_form' ho
    have SE := hide (seenE_row ho hM (fun p hp => (hE p hp).1))
    have HRT := hide (fun e (he : e ∈ M.map (·.1)) => (show PA.Right e from by
      obtain ⟨p, hp, rfl⟩ := List.mem_map.1 he
      exact (hE p hp).2))
    have HM := hide hM
    have B1 := hide (BB.out.trans (b1.mono BB.out.size))
    have BX1 := hide (BX.out.below b1 BX.out.lt)
    have BY1 := hide (BY.out.below b1 BY.out.lt)
    clear ho hM hE hC b1 HR BB BX BY KA1
    go_wp2_with fail
    refine (new_any _).mono ?_
    rintro e w5 ⟨rfl, rfl⟩
    have hP := new_pb w4 w4.heap.size (Nat.le_refl _)
    have bb : Below w4.heap.size w4 (w4.alloc (.cells (pcells PA.s0 (.slice none 0 0) (.slice none 0 0)) 67)) := (Below.refl _ _).alloc (Nat.le_refl _) _
    have hsz : (w4.alloc (.cells (pcells PA.s0 (.slice none 0 0) (.slice none 0 0)) 67)).heap.size = w4.heap.size + 1 := by simp
    generalize w4.alloc (.cells (pcells PA.s0 (.slice none 0 0) (.slice none 0 0)) 67) = w5 at hP bb hsz ⊢
    have BX5 := hide (BX1.out.below bb BX1.out.lt)
    have BY5 := hide (BY1.out.below bb BY1.out.lt)
    have SE5 := hide (SE.out.kept bb)
    have B5 := hide (B1.out.trans (bb.mono B1.out.size))
    have B45 := hide bb
    obtain ⟨gP, hgP⟩ : ∃ g, w4.heap.size = g := ⟨_, rfl⟩
    have HG4 := hide hgP
    rw [hgP] at hP hsz ⊢
    have HPB := hide hP
    have HSZ := hide hsz
    clear hP bb hsz BX1 BY1 hgP
    go_upto_region 9 with fail
    have hkx := PA.keep_right kd rn fn lp lt
    have hky := PA.keep_right kd' rn' fn' lp' lt'
    have EX := hide (fun (w' : World) (ix : Below w5.heap.size w5 w') => keepNew_any kd rn fn Ap At np cp nt ct w' lp lt HX.out.hk HX.out.hr HX.out.hf (HX.out.hP.below (B5.out.trans (ix.mono B5.out.size))) (HX.out.hT.below (B5.out.trans (ix.mono B5.out.size))))
    have EY := hide (fun (w' : World) (ix : Below w5.heap.size w5 w') => keepNew_any kd' rn' fn' Ap' At' np' cp' nt' ct' w' lp' lt' HY.out.hk HY.out.hr HY.out.hf (HY.out.hP.below (B5.out.trans (ix.mono B5.out.size))) (HY.out.hT.below (B5.out.trans (ix.mono B5.out.size))))
    generalize PA.keepEv kd rn fn lp lt = X at hkx EX
    generalize PA.keepEv kd' rn' fn' lp' lt' = Y at hky EY
    have HRX := hide hkx
    have HRY := hide hky
    clear hkx hky HX HY
    go_cut [10, 11] (fun u v wx => TwoMade X Y w5 u v wx)
    case first =>
      refine wp_region_vals (n := 76) (PairJ X Y (.agg #[.int .i64 kd, .int .i64 rn, .int .i64 fn, .slice Ap np cp, .slice At nt ct]) (.agg #[.int .i64 kd', .int .i64 rn', .int .i64 fn', .slice Ap' np' cp', .slice At' nt' ct']) w5) (by kernel_rfl) (by kernel_rfl) (by kernel_rfl) rfl (fun L u u' w h hj => hj.same h) ?_ ?_ ?_
      · intro i hi L a w' hL hsame hsz hJ hdep hcl
        have hi8 : i < 8 := hi
        obtain rfl | rfl | rfl | rfl | rfl | rfl | rfl | rfl : i = 0 ∨ i = 1 ∨ i = 2 ∨ i = 3 ∨ i = 4 ∨ i = 5 ∨ i = 6 ∨ i = 7 := by omega
        · have ev : a.eval (.tmp 4) = .pointer (some ⟨gX, 0, none⟩) := eval_base hsame (by kernel_rfl)
          obtain ⟨q0, q1, q2, q3, q4⟩ := Box.five (BX5.out.below hJ.below BX5.out.lt)
          refine Step.val _ rfl rfl (wanted_none rfl) (.agg #[.int .i64 kd, .int .i64 rn, .int .i64 fn, .slice Ap np cp, .slice At nt ct]) w' (fun ρ hρ => ?_) hJ.put0
          rw [hρ] at ev
          clear hJ hsame hdep hcl hρ hsz
          go_simp
        · have ev : a.eval (.tmp 33) = .agg #[.int .i64 kd, .int .i64 rn, .int .i64 fn, .slice Ap np cp, .slice At nt ct] := eval_slot (ops := _) (j := 0) (by kernel_rfl) (hJ.l0 (dep_of hdep 0 (by kernel_rfl)))
          refine Step.call _ rfl rfl (wanted_none rfl) 14 #[.agg #[.int .i64 kd, .int .i64 rn, .int .i64 fn, .slice Ap np cp, .slice At nt ct]] (fun ρ hρ => ?_) ?_
          · rw [hρ] at ev
            have ef : ρ (.func 14) = .func (.func 14) #[] #[] := (hρ _).symm
            clear hJ hsame hdep hcl hρ hsz
            go_simp
          · refine (EX.out w' hJ.below).mono ?_
            rintro e w2 ⟨A, c, rfl, h1, h2, h3⟩
            exact ⟨_, rfl, hJ.put1 h2 ⟨A, c, rfl, h1, by have := right_params HRX.out; simp only []; omega⟩ h3 (hJ.not6 (.inl hL))⟩
        · have ev : a.eval (.tmp 5) = .pointer (some ⟨gY, 0, none⟩) := eval_base hsame (by kernel_rfl)
          obtain ⟨q0, q1, q2, q3, q4⟩ := Box.five (BY5.out.below hJ.below BY5.out.lt)
          refine Step.val _ rfl rfl (wanted_none rfl) (.agg #[.int .i64 kd', .int .i64 rn', .int .i64 fn', .slice Ap' np' cp', .slice At' nt' ct']) w' (fun ρ hρ => ?_) hJ.put2
          rw [hρ] at ev
          clear hJ hsame hdep hcl hρ hsz
          go_simp
        · have ev : a.eval (.tmp 35) = .agg #[.int .i64 kd', .int .i64 rn', .int .i64 fn', .slice Ap' np' cp', .slice At' nt' ct'] := eval_slot (ops := _) (j := 2) (by kernel_rfl) (hJ.l2 (dep_of hdep 2 (by kernel_rfl)))
          refine Step.call _ rfl rfl (wanted_none rfl) 14 #[.agg #[.int .i64 kd', .int .i64 rn', .int .i64 fn', .slice Ap' np' cp', .slice At' nt' ct']] (fun ρ hρ => ?_) ?_
          · rw [hρ] at ev
            have ef : ρ (.func 14) = .func (.func 14) #[] #[] := (hρ _).symm
            clear hJ hsame hdep hcl hρ hsz
            go_simp
          · refine (EY.out w' hJ.below).mono ?_
            rintro e w2 ⟨A, c, rfl, h1, h2, h3⟩
            exact ⟨_, rfl, hJ.put3 h2 ⟨A, c, rfl, h1, by have := right_params HRY.out; simp only []; omega⟩ h3 (hJ.not7 (.inl hL))⟩
        · refine Step.val _ rfl rfl (wanted_none rfl) (.pointer (some ⟨w'.heap.size, 0, none⟩)) (w'.alloc (.cells #[.int .i64 0, .int .i32 0, .int .u8 0, .int .u8 0, .int .u8 0, .slice none 0 0, .string ⟨#[]⟩] 24)) (fun ρ hρ => ?_) (hJ.put4 rfl (hJ.not6 (.inr hL)))
          clear hJ hsame hdep hcl hρ hsz
          go_simp
        · refine Step.val _ rfl rfl (wanted_none rfl) (.pointer (some ⟨w'.heap.size, 0, none⟩)) (w'.alloc (.cells #[.int .i64 0, .int .i32 0, .int .u8 0, .int .u8 0, .int .u8 0, .slice none 0 0, .string ⟨#[]⟩] 24)) (fun ρ hρ => ?_) (hJ.put5 rfl (hJ.not7 (.inr hL)))
          clear hJ hsame hdep hcl hρ hsz
          go_simp
        · have l1 := dep_of hdep 1 (by kernel_rfl)
          have l2 := dep_of hdep 4 (by kernel_rfl)
          obtain ⟨v, hv, ⟨Aq, cq, hvq, _⟩, _⟩ := hJ.c1 l1
          simp only [] at hvq
          subst hvq
          obtain ⟨g, cs, hg, _, hb, hs⟩ := hJ.a4 l2
          obtain ⟨x0, x1, x2, x3, x4, x5, x6, rfl⟩ := seven_of hs
          obtain ⟨m0, m1, m2, m3, m4, m5, m6⟩ := Box.seven hb
          have fr := hb.frozen
          have ev : a.eval (.tmp 34) = .agg #[.int .i64 X.kind, .int .i32 X.rune, .int .u8 X.priv, .int .u8 X.inter, .int .u8 X.final, .slice Aq X.params.length cq, .string (strOfNums X.text)] := eval_slot (ops := _) (j := 1) (by kernel_rfl) hv
          have ea : a.eval (.tmp 10) = .pointer (some ⟨g, 0, none⟩) := eval_slot (ops := _) (j := 4) (by kernel_rfl) hg
          refine Step.skip _ rfl (wanted_none rfl) (put7 w' g (.int .i64 X.kind) (.int .i32 X.rune) (.int .u8 X.priv) (.int .u8 X.inter) (.int .u8 X.final) (.slice Aq X.params.length cq) (.string (strOfNums X.text))) (fun ρ hρ => ?_) (hJ.put6 l1 l2 hg hv (put7_kept _ _ _ _ _ _ _ _ _) (put7_box hb rfl _ _ _ _ _ _ _))
          rw [hρ] at ev ea
          clear hJ hsame hdep hcl hρ hsz hv hg hb
          unfold put7
          go_simp
        · have l1 := dep_of hdep 3 (by kernel_rfl)
          have l2 := dep_of hdep 5 (by kernel_rfl)
          obtain ⟨v, hv, ⟨Aq, cq, hvq, _⟩, _⟩ := hJ.c3 l1
          simp only [] at hvq
          subst hvq
          obtain ⟨g, cs, hg, _, hb, hs⟩ := hJ.a5 l2
          obtain ⟨x0, x1, x2, x3, x4, x5, x6, rfl⟩ := seven_of hs
          obtain ⟨m0, m1, m2, m3, m4, m5, m6⟩ := Box.seven hb
          have fr := hb.frozen
          have ev : a.eval (.tmp 36) = .agg #[.int .i64 Y.kind, .int .i32 Y.rune, .int .u8 Y.priv, .int .u8 Y.inter, .int .u8 Y.final, .slice Aq Y.params.length cq, .string (strOfNums Y.text)] := eval_slot (ops := _) (j := 3) (by kernel_rfl) hv
          have ea : a.eval (.tmp 11) = .pointer (some ⟨g, 0, none⟩) := eval_slot (ops := _) (j := 5) (by kernel_rfl) hg
          refine Step.skip _ rfl (wanted_none rfl) (put7 w' g (.int .i64 Y.kind) (.int .i32 Y.rune) (.int .u8 Y.priv) (.int .u8 Y.inter) (.int .u8 Y.final) (.slice Aq Y.params.length cq) (.string (strOfNums Y.text))) (fun ρ hρ => ?_) (hJ.put7 l1 l2 hg hv (put7_kept _ _ _ _ _ _ _ _ _) (put7_box hb rfl _ _ _ _ _ _ _))
          rw [hρ] at ev ea
          clear hJ hsame hdep hcl hρ hsz hv hg hb
          unfold put7
          go_simp
      · intro L a w' hsame hsz hJ hall
        have h := hJ.two hall
        obtain ⟨u, hu, ha⟩ := act_puts hsame
        simp only [← hu] at h
        clear hJ hall hsz hu hsame
        subst ha
        change Exit.then _ _ Exit.normal ((((((((Act.put (putAll _ u 0 _) (some 33) (u 0)).put (some 34) (u 1)).put (some 35) (u 2)).put (some 36) (u 3)).put (some 10) (u 4)).put (some 11) (u 5)).put none (u 6)).put none (u 7)) _
        simp only [putAll]
        generalize u 0 = v0
        generalize u 1 = v1
        generalize u 2 = v2
        generalize u 3 = v3
        generalize u 4 = v4 at h ⊢
        generalize u 5 = v5 at h ⊢
        generalize u 6 = v6
        generalize u 7 = v7
        go_simp
        go_step
        go_meet
        exact h
      · exact ⟨(Below.refl _ _).drew, (fun h => by cases h), (fun h => by cases h), (fun h => by cases h), (fun h => by cases h), (fun h => by cases h), (fun h => by cases h), (fun h => by cases h), (fun h => by cases h), (fun h => by cases h), (fun h => by cases h), (fun h => by cases h), (fun h => by cases h), (fun h => by cases h)⟩
    case rest =>
      obtain ⟨g1, g2, uX, uY, rfl, rfl, bX, bY, ⟨Ax, cx, hux, sX, lX⟩, ⟨Ay, cy, huy, sY, lY⟩, fX, fY, n1, n2, b6⟩ := hcut
      simp only [] at hux huy sX sY lX lY
      subst hux huy
      have hz := HSZ.out
      have h4 := HG4.out
      have h6 := b6.size
      have hg1 : g1 ≠ gP := by omega
      have hg2 : g2 ≠ gP := by omega
      have hgw : gP < wc.heap.size := by omega
      have b4c : Below w4.heap.size w4 wc := B45.out.trans (b6.mono B45.out.size)
      have bwc : Below w.heap.size w wc := B5.out.trans (b6.mono B5.out.size)
      have hgo : w.heap.size ≤ gP := by have := B1.out.size; omega
      have hg2p : 2 ≤ gP := by have := HTB.out.lt; omega
      have TENS := hide (fun (w' : World) (kk : Kept [some gP] wc w') => HT.out.keep (bwc.trans (kk.toBelow bwc.size (fun q hq => by simp at hq; omega))))
      have TABS := hide (fun (w' : World) (kk : Kept [some gP] wc w') => HTB.out.keep (bwc.trans (kk.toBelow bwc.size (fun q hq => by simp at hq; omega))))
      have OLD := hide (fun (w' : World) (kk : Kept [some gP] wc w') => SE.out.kept (b4c.trans (kk.toBelow b4c.size (fun q hq => by simp at hq; omega))))
      have FIN := hide (fun (w' : World) (kk : Kept [some gP] wc w') => bwc.trans (kk.toBelow bwc.size (fun q hq => by simp at hq; omega)))
      have BX6 := hide (show Box wc g1 24 #[.int .i64 X.kind, .int .i32 X.rune, .int .u8 X.priv, .int .u8 X.inter, .int .u8 X.final, .slice Ax X.params.length cx, .string (strOfNums X.text)] from bX)
      have BY6 := hide (show Box wc g2 24 #[.int .i64 Y.kind, .int .i32 Y.rune, .int .u8 Y.priv, .int .u8 Y.inter, .int .u8 Y.final, .slice Ay Y.params.length cy, .string (strOfNums Y.text)] from bY)
      have PB6 := hide (HPB.out.below b6)
      have PX := hide (fun (w' : World) (kk : Kept [some gP] wc w') => ParIn.grown (p := (X, .slice Ax X.params.length cx)) ⟨Ax, cx, rfl, sX, lX⟩ kk.grownBy (fun _ ad n c e he => by have h1 := fX ad n c e; injection he with he; omega))
      have PY := hide (fun (w' : World) (kk : Kept [some gP] wc w') => ParIn.grown (p := (Y, .slice Ay Y.params.length cy)) ⟨Ay, cy, rfl, sY, lY⟩ kk.grownBy (fun _ ad n c e he => by have h1 := fY ad n c e; injection he with he; omega))
      obtain ⟨es, hes⟩ : ∃ es, M.map (·.1) = es := ⟨_, rfl⟩
      rw [hes] at HRT
      have hkl : es.length = k := by rw [← hes, List.length_map]; exact HM.out
      have HKL := hide hkl
      obtain ⟨bs, hbs⟩ : ∃ bs, PA.bytesAll es = bs := ⟨_, rfl⟩
      have hfd := PA.feed_all es HRT.out
      have hbl := bytesAll_len es HRT.out
      rw [hbs] at hfd hbl
      have hby : ∀ x ∈ bs, 0 ≤ x ∧ x < 256 := fun x hx => by
        rw [← hbs] at hx
        obtain ⟨e, he, hx⟩ := List.mem_flatMap.1 hx
        exact PA.bytes_u8 (HRT.out e he) x hx
      have FACTS := hide (show bs.length ≤ 1000000 ∧ (∀ x ∈ bs, 0 ≤ x ∧ x < 256) ∧ PA.feed PA.s0 bs = (PA.s0, es) ∧ ∀ e ∈ es, PA.Right e from ⟨by rw [hkl] at hbl; omega, hby, hfd, HRT.out⟩)
      have PRT := hide (fun (w' : World) (kk : Kept [some gP] wc w') => (show Calls Tryd.prog 10 #[.slice A7 k c7] w' (Encoded w' bs) from by
        have h := print_any A7 k c7 M w' (OLD.out w' kk) (fun p hp => evFits_right (HRT.out p.1 (hes ▸ List.mem_map.2 ⟨p, hp, rfl⟩))) (by omega) (TENS.out w' kk)
        rw [hes, printed_all HRT.out, hbs] at h
        exact h))
      have HES := hide hes
      obtain ⟨bsX, hbX⟩ : ∃ bs, PA.bytesOf X = bs := ⟨_, rfl⟩
      obtain ⟨bsY, hbY⟩ : ∃ bs, PA.bytesOf Y = bs := ⟨_, rfl⟩
      have hlX : bsX.length ≤ 4200 := by
        have := bytesAll_len [X] (fun e he => by rw [List.mem_singleton.1 he]; exact HRX.out)
        simp [PA.bytesAll, hbX] at this
        omega
      have HLX := hide hlX
      have PRX := hide (fun (g : Nat) (w' : World) (kk : Kept [some gP] wc w') (hb : Box w' g 24 (ecells X (.slice Ax X.params.length cx)).toArray) => (show Calls Tryd.prog 10 #[.slice (some ⟨g, 0, none⟩) 1 1] w' (Encoded w' bsX) from by
        have h := print_any (some ⟨g, 0, none⟩) 1 1 [(X, .slice Ax X.params.length cx)] w' (seenE_block hb (by rw [mcells_one]) rfl (fun p hp => by rw [List.mem_singleton.1 hp]; exact PX.out w' kk)) (one_fits (evFits_right HRX.out)) (by omega) (TENS.out w' kk)
        rw [show ([(X, Value.slice Ax X.params.length cx)].map (·.1)) = [X] from rfl, printed_all (fun e he => by rw [List.mem_singleton.1 he]; exact HRX.out), show PA.bytesAll [X] = bsX from by simp [PA.bytesAll, hbX]] at h
        exact h))
      have PRY := hide (fun (g : Nat) (w' : World) (kk : Kept [some gP] wc w') (hb : Box w' g 24 (ecells Y (.slice Ay Y.params.length cy)).toArray) => (show Calls Tryd.prog 10 #[.slice (some ⟨g, 0, none⟩) 1 1] w' (Encoded w' bsY) from by
        have h := print_any (some ⟨g, 0, none⟩) 1 1 [(Y, .slice Ay Y.params.length cy)] w' (seenE_block hb (by rw [mcells_one]) rfl (fun p hp => by rw [List.mem_singleton.1 hp]; exact PY.out w' kk)) (one_fits (evFits_right HRY.out)) (by omega) (TENS.out w' kk)
        rw [show ([(Y, Value.slice Ay Y.params.length cy)].map (·.1)) = [Y] from rfl, printed_all (fun e he => by rw [List.mem_singleton.1 he]; exact HRY.out), show PA.bytesAll [Y] = bsY from by simp [PA.bytesAll, hbY]] at h
        exact h))
      obtain ⟨bq, hq1, hq2, hq3⟩ : ∃ bq, decide (bsX = bsY) = bq ∧ decide ([X] = [Y]) = bq ∧ evEqB X Y = bq := by
        refine ⟨_, rfl, ?_, ?_⟩
        · rw [← hbX, ← hbY]
          by_cases h : X = Y
          · rw [h]; simp
          · rw [decide_eq_false (fun e => h (PA.bytes_inj HRX.out HRY.out e)), decide_eq_false (fun e => h (by simpa using e))]
        · rw [← hbX, ← hbY]
          by_cases h : X = Y
          · rw [h, (evEqB_iff _ _).2 rfl]; simp
          · rw [decide_eq_false (fun e => h (PA.bytes_inj HRX.out HRY.out e))]
            cases hb : evEqB X Y
            · rfl
            · exact absurd ((evEqB_iff _ _).1 hb) h
      have HBQ := hide (And.intro hq1 (And.intro hq2 hq3))
      have EVB := hide (fun (g h : Nat) (w' : World) (kk : Kept [some gP] wc w') (hb : Box w' g 24 (ecells X (.slice Ax X.params.length cx)).toArray) (hb' : Box w' h 24 (ecells Y (.slice Ay Y.params.length cy)).toArray) => (show Calls Tryd.prog 18 #[.slice (some ⟨g, 0, none⟩) 1 1, .slice (some ⟨h, 0, none⟩) 1 1] w' (fun e w2 => e = .returned (.bool bq) ∧ Below w'.heap.size w' w2) from by
        have h := eventsB_any (some ⟨g, 0, none⟩) (some ⟨h, 0, none⟩) 1 1 1 [(X, .slice Ax X.params.length cx)] [(Y, .slice Ay Y.params.length cy)] w' (seenE_block hb (by rw [mcells_one]) rfl (fun p hp => by rw [List.mem_singleton.1 hp]; exact PX.out w' kk)) (seenE_block hb' (by rw [mcells_one]) rfl (fun p hp => by rw [List.mem_singleton.1 hp]; exact PY.out w' kk)) (one_fits (evFits_right HRX.out)) (one_fits (evFits_right HRY.out)) (by omega)
        rw [← HBQ.out.2.1]
        exact h))
      have SSM := hide (fun (w' : World) (kk : Kept [some gP] wc w') => (show Calls Tryd.prog 13 #[(evV X (.slice Ax X.params.length cx)), (evV Y (.slice Ay Y.params.length cy))] w' (fun e w2 => e = .returned (.bool bq) ∧ Below w'.heap.size w' w2) from by
        obtain ⟨_, _, e1, s1, _⟩ := PX.out w' kk
        obtain ⟨_, _, e2, s2, _⟩ := PY.out w' kk
        injection e1 with e1 _ _
        injection e2 with e2 _ _
        subst e1 e2
        have h := seqSame_any X.kind X.rune X.priv X.inter X.final Y.kind Y.rune Y.priv Y.inter Y.final Ax Ay X.params.length cx Y.params.length cy X.params Y.params X.text Y.text w' s1 s2 (by have := right_params HRX.out; omega) (evFits_right HRX.out).2 (evFits_right HRY.out).2
        rw [← HBQ.out.2.2]
        exact h))
      clear bX bY sX sY fX fY b6 b4c bwc hfd hbl hby hq1 hq2 hq3 hes hbs hbX hbY hkl hlX HRT HM SE5 BX5 BY5 HPB B1 B5 B45 n1 n2 lX lY EX EY h4 hz hgo
      go_upto_region 10 with fail
      refine wp_region_phi (n := 76) (BackEv gP) (BackPhi gP k (.slice A7 k c7) es bs bsX bsY X Y (.slice Ax X.params.length cx) (.slice Ay Y.params.length cy) bq) (BackBase gP wc) (by kernel_rfl) (by kernel_rfl) (by kernel_rfl) rfl (fun i j v w w' _ _ hne h e => h.step hne e) (fun L i w w' hL h e => h.step hL e) (cases40 ⟨?_, ?_, ?_, ?_, ?_, ?_, ?_, ?_, ?_, ?_, ?_, ?_, ?_, ?_, ?_, ?_, ?_, ?_, ?_, ?_, ?_, ?_, ?_, ?_, ?_, ?_, ?_, ?_, ?_, ?_, ?_, ?_, ?_, ?_, ?_, ?_, ?_, ?_, ?_, ?_⟩) ?_ ?_
      · intro L a w' hL hsame hsz hB hdep hcl hP
        have ev : a.eval (.tmp 9) = (.pointer (some ⟨gP, 0, none⟩)) := eval_base hsame (by kernel_rfl)
        refine StepP.val _ rfl rfl (wanted_none rfl) (.pointer (some ⟨gP, 0, none⟩)) w' (fun ρ hρ => ?_) (BackEv.of (by decide) (Below.refl _ _)) (BackPhi.put (by decide) (by simp [backCst]))
        · skip
          rw [hρ] at ev
          clear hB hsame hdep hcl hP hρ hsz 
          go_simp
      · intro L a w' hL hsame hsz hB hdep hcl hP
        have ev : a.eval (.tmp 7) = (.slice A7 k c7) := eval_base hsame (by kernel_rfl)
        refine StepP.val _ rfl rfl (wanted_none rfl) (.slice A7 k c7) w' (fun ρ hρ => ?_) (BackEv.of (by decide) (Below.refl _ _)) (BackPhi.put (by decide) (by simp [backCst]))
        · skip
          rw [hρ] at ev
          clear hB hsame hdep hcl hP hρ hsz 
          go_simp
      · intro L a w' hL hsame hsz hB hdep hcl hP
        have ev : a.eval (.tmp 38) = (.slice A7 k c7) := eval_slot (ops := _) (j := 1) (by kernel_rfl) ((hP 1 (dep_of hdep 1 (by kernel_rfl))).val (by decide) (by simp [backCst]))
        refine StepP.call _ rfl rfl (wanted_none rfl) 10 #[(.slice A7 k c7)] (fun ρ hρ => ?_) ?_
        · rw [hρ] at ev
          have ef : ρ (.func 10) = .func (.func 10) #[] #[] := (hρ _).symm
          clear hB hsame hdep hcl hP hρ hsz
          go_simp
        · refine (PRT.out w' hB.1).mono ?_
          intro e w2 hE
          obtain ⟨v, rfl, bb, hv⟩ := encoded_at (gP := gP) hE (by have := hB.1.size; omega)
          exact ⟨v, rfl, BackEv.of (by decide) bb, BackPhi.two.2 hv⟩
      · intro L a w' hL hsame hsz hB hdep hcl hP
        have ev : a.eval (.tmp 37) = (.pointer (some ⟨gP, 0, none⟩)) := eval_slot (ops := _) (j := 0) (by kernel_rfl) ((hP 0 (dep_of hdep 0 (by kernel_rfl))).val (by decide) (by simp [backCst]))
        obtain ⟨Ab, cb, hvb, hsb, hnb⟩ := BackPhi.two.1 (hP 2 (dep_of hdep 2 (by kernel_rfl)))
        have eb : a.eval (.tmp 39) = .slice Ab bs.length cb := eval_slot (ops := _) (j := 2) (by kernel_rfl) hvb
        refine StepP.call _ rfl rfl (wanted_none rfl) 20 #[(.pointer (some ⟨gP, 0, none⟩)), .slice Ab bs.length cb] (fun ρ hρ => ?_) ?_
        · rw [hρ] at ev eb
          have ef : ρ (.func 20) = .func (.func 20) #[] #[] := (hρ _).symm
          clear hB hsame hdep hcl hP hρ hsz
          go_simp
        · refine (feed_any gP gP PA.s0 (.slice none 0 0) (.slice none 0 0) Ab bs.length cb bs w' (hB.2 hL) PA.s0_ok (by simp [PA.s0, PA.d0]) hsb FACTS.out.2.1 FACTS.out.1 (fun _ ad had => by have := hnb ad had; simp [Value.ownBlock]; omega) (by omega) (TABS.out w' hB.1)).mono ?_
          intro e w7 hF
          rw [FACTS.out.2.2.1] at hF
          obtain ⟨v7, vp', vt', M7, rfl, hM7, hP7, hown, hO, _, hK7, _⟩ := hF
          have hM7 : M7.map (·.1) = es := hM7
          obtain ⟨A8, c8, rfl, _⟩ := own_form' hown
          have SE7 := seenE_of hown hO (fun p hp => by have h1 := right_params (FACTS.out.2.2.2 p.1 (hM7 ▸ List.mem_map.2 ⟨p, hp, rfl⟩)); omega)
          have hM7l : M7.length = k := by have := congrArg List.length hM7; rw [List.length_map] at this; rw [this]; exact HKL.out
          rw [hM7l] at SE7 ⊢
          exact ⟨_, rfl, BackEv.fed ⟨hK7.os, hK7.tape, hK7.output, hK7.size, fun q hq hn => hK7.block q hq (by simpa [Value.ownBlock] using hn)⟩, BackPhi.three.2 ⟨A8, c8, M7, rfl, SE7, hM7, vp', vt', hP7⟩⟩
      · intro L a w' hL hsame hsz hB hdep hcl hP
        have ev : a.eval (.tmp 7) = (.slice A7 k c7) := eval_base hsame (by kernel_rfl)
        refine StepP.val _ rfl rfl (wanted_none rfl) (.slice A7 k c7) w' (fun ρ hρ => ?_) (BackEv.of (by decide) (Below.refl _ _)) (BackPhi.put (by decide) (by simp [backCst]))
        · skip
          rw [hρ] at ev
          clear hB hsame hdep hcl hP hρ hsz 
          go_simp
      · intro L a w' hL hsame hsz hB hdep hcl hP
        have ev : a.eval (.tmp 41) = (.slice A7 k c7) := eval_slot (ops := _) (j := 4) (by kernel_rfl) ((hP 4 (dep_of hdep 4 (by kernel_rfl))).val (by decide) (by simp [backCst]))
        obtain ⟨A8, c8, M8, hv8, hs8, hm8, _⟩ := BackPhi.three.1 (hP 3 (dep_of hdep 3 (by kernel_rfl)))
        have e8 : a.eval (.tmp 40) = .slice A8 k c8 := eval_slot (ops := _) (j := 3) (by kernel_rfl) hv8
        refine StepP.call _ rfl rfl (wanted_none rfl) 18 #[.slice A8 k c8, (.slice A7 k c7)] (fun ρ hρ => ?_) ?_
        · rw [hρ] at e8 ev
          have ef : ρ (.func 18) = .func (.func 18) #[] #[] := (hρ _).symm
          clear hB hsame hdep hcl hP hρ hsz
          go_simp
        · refine (events_any A8 A7 k c8 c7 M8 M w' hs8 (OLD.out w' hB.1) (hm8.trans HES.out.symm) (by omega)).mono ?_
          rintro e w2 ⟨rfl, bb⟩
          exact ⟨_, rfl, BackEv.of (by decide) bb, (BackPhi.put (by decide) (by simp [backCst]))⟩
      · intro L a w' hL hsame hsz hB hdep hcl hP
        have ev : a.eval (.tmp 42) = (.bool true) := eval_slot (ops := _) (j := 5) (by kernel_rfl) ((hP 5 (dep_of hdep 5 (by kernel_rfl))).val (by decide) (by simp [backCst]))
        refine StepP.val _ rfl rfl (wanted_none rfl) (.bool true) w' (fun ρ hρ => ?_) (BackEv.of (by decide) (Below.refl _ _)) (BackPhi.put (by decide) (by simp [backCst]))
        · skip
          rw [hρ] at ev
          clear hB hsame hdep hcl hP hρ hsz 
          go_simp
      · intro L a w' hL hsame hsz hB hdep hcl hP
        have gd : valOf _ 6 a = .bool true := (hP 6 (dep_of hdep 6 (by kernel_rfl))).val (by decide) (by simp [backCst])
        have ev : a.eval (.tmp 9) = (.pointer (some ⟨gP, 0, none⟩)) := eval_base hsame (by kernel_rfl)
        refine StepP.val _ rfl rfl (wanted_some (g := 6) (b := true) rfl gd) (.pointer (some ⟨gP, 0, none⟩)) w' (fun ρ hρ => ?_) (BackEv.of (by decide) (Below.refl _ _)) (BackPhi.put (by decide) (by simp [backCst]))
        · skip
          rw [hρ] at ev
          clear hB hsame hdep hcl hP hρ hsz gd
          go_simp
      · intro L a w' hL hsame hsz hB hdep hcl hP
        have gd : valOf _ 6 a = .bool true := (hP 6 (dep_of hdep 6 (by kernel_rfl))).val (by decide) (by simp [backCst])
        have ev : a.eval (.tmp 44) = (.pointer (some ⟨gP, 0, none⟩)) := eval_slot (ops := _) (j := 7) (by kernel_rfl) ((hP 7 (dep_of hdep 7 (by kernel_rfl))).val (by decide) (by simp [backCst]))
        have l6 := dep_of hdep 6 (by kernel_rfl)
        have l5 := dep_of (hcl 6 l6) 5 (by kernel_rfl)
        have l3 := dep_of (hcl 5 l5) 3 (by kernel_rfl)
        obtain ⟨_, _, _, _, _, _, vp, vt, hpb⟩ := BackPhi.three.1 (hP 3 l3)
        refine StepP.call _ rfl rfl (wanted_some (g := 6) (b := true) rfl gd) 21 #[(.pointer (some ⟨gP, 0, none⟩))] (fun ρ hρ => ?_) ?_
        · rw [hρ] at ev
          have ef : ρ (.func 21) = .func (.func 21) #[] #[] := (hρ _).symm
          clear hB hsame hdep hcl hP hρ hsz gd
          go_simp
        · refine (ground_any gP gP PA.s0 vp vt w' hpb).mono ?_
          rintro e w2 ⟨rfl, bb⟩
          exact ⟨_, rfl, BackEv.of (by decide) bb, BackPhi.put (by decide) (by simp [backCst]; rfl)⟩
      · intro L a w' hL hsame hsz hB hdep hcl hP
        have ec : a.eval (.tmp 43) = (.bool true) := eval_slot (ops := _) (j := 6) (by kernel_rfl) ((hP 6 (dep_of hdep 6 (by kernel_rfl))).val (by decide) (by simp [backCst]))
        have ev : a.eval (.tmp 45) = (.bool true) := eval_slot (ops := _) (j := 8) (by kernel_rfl) ((hP 8 (dep_of hdep 8 (by kernel_rfl))).val (by decide) (by simp [backCst]))
        refine StepP.val _ rfl rfl (wanted_none rfl) (.bool true) w' (fun ρ hρ => ?_) (BackEv.of (by decide) (Below.refl _ _)) (BackPhi.put (by decide) (by simp [backCst]))
        · skip
          rw [hρ] at ec
          rw [hρ] at ev
          clear hB hsame hdep hcl hP hρ hsz 
          go_simp
      · intro L a w' hL hsame hsz hB hdep hcl hP
        have ev : a.eval (.tmp 46) = (.bool true) := eval_slot (ops := _) (j := 9) (by kernel_rfl) ((hP 9 (dep_of hdep 9 (by kernel_rfl))).val (by decide) (by simp [backCst]))
        refine StepP.val _ rfl rfl (wanted_none rfl) (.bool true) w' (fun ρ hρ => ?_) (BackEv.of (by decide) (Below.refl _ _)) (BackPhi.put (by decide) (by simp [backCst]))
        · skip
          rw [hρ] at ev
          clear hB hsame hdep hcl hP hρ hsz 
          go_simp
      · intro L a w' hL hsame hsz hB hdep hcl hP
        have gd : valOf _ 10 a = .bool true := (hP 10 (dep_of hdep 10 (by kernel_rfl))).val (by decide) (by simp [backCst])
        have ev : a.eval (.tmp 10) = (.pointer (some ⟨g1, 0, none⟩)) := eval_base hsame (by kernel_rfl)
        obtain ⟨q0, q1, q2, q3, q4, q5, q6⟩ := Box.seven (BX6.out.kept hB.1 (by simpa using hg1))
        refine StepP.val _ rfl rfl (wanted_some (g := 10) (b := true) rfl gd) (evV X (.slice Ax X.params.length cx)) w' (fun ρ hρ => ?_) (BackEv.of (by decide) (Below.refl _ _)) (BackPhi.put (by decide) (by simp [backCst]))
        · skip
          rw [hρ] at ev
          clear hB hsame hdep hcl hP hρ hsz gd
          simp only [evV, ecells]
          go_simp
      · intro L a w' hL hsame hsz hB hdep hcl hP
        have gd : valOf _ 10 a = .bool true := (hP 10 (dep_of hdep 10 (by kernel_rfl))).val (by decide) (by simp [backCst])
        have ev : a.eval (.tmp 48) = (evV X (.slice Ax X.params.length cx)) := eval_slot (ops := _) (j := 11) (by kernel_rfl) ((hP 11 (dep_of hdep 11 (by kernel_rfl))).val (by decide) (by simp [backCst]))
        have hsw := hB.1.size
        refine StepP.val _ rfl rfl (wanted_some (g := 10) (b := true) rfl gd) (.slice (some ⟨w'.heap.size, 0, none⟩) 1 1) (w'.alloc (.cells #[.int .i64 X.kind, .int .i32 X.rune, .int .u8 X.priv, .int .u8 X.inter, .int .u8 X.final, .slice Ax X.params.length cx, .string (strOfNums X.text)] 24)) (fun ρ hρ => ?_) (BackEv.of (by decide) ((Below.refl _ _).alloc (Nat.le_refl _) _)) ((BackPhi.oneX (by decide)).2 ⟨_, rfl, Box.new _ _ _, by omega⟩)
        · skip
          rw [hρ] at ev
          simp only [evV, ecells] at ev
          clear hB hsame hdep hcl hP hρ hsz gd
          go_simp
      · intro L a w' hL hsame hsz hB hdep hcl hP
        have gd : valOf _ 10 a = .bool true := (hP 10 (dep_of hdep 10 (by kernel_rfl))).val (by decide) (by simp [backCst])
        obtain ⟨g, hvg, hbg, _⟩ := (BackPhi.oneX (by decide)).1 (hP 12 (dep_of hdep 12 (by kernel_rfl)))
        have ev : a.eval (.tmp 49) = .slice (some ⟨g, 0, none⟩) 1 1 := eval_slot (ops := _) (j := 12) (by kernel_rfl) hvg
        refine StepP.call _ rfl rfl (wanted_some (g := 10) (b := true) rfl gd) 10 #[.slice (some ⟨g, 0, none⟩) 1 1] (fun ρ hρ => ?_) ?_
        · rw [hρ] at ev
          have ef : ρ (.func 10) = .func (.func 10) #[] #[] := (hρ _).symm
          clear hB hsame hdep hcl hP hρ hsz gd
          go_simp
        · refine (PRX.out g w' hB.1 hbg).mono ?_
          intro e w2 hE
          obtain ⟨v, rfl, bb, hv⟩ := encoded_at (gP := gP) hE (by have := hB.1.size; omega)
          exact ⟨v, rfl, BackEv.of (by decide) bb, BackPhi.bX.2 hv⟩
      · intro L a w' hL hsame hsz hB hdep hcl hP
        have gd : valOf _ 10 a = .bool true := (hP 10 (dep_of hdep 10 (by kernel_rfl))).val (by decide) (by simp [backCst])
        have ev : a.eval (.tmp 11) = (.pointer (some ⟨g2, 0, none⟩)) := eval_base hsame (by kernel_rfl)
        obtain ⟨q0, q1, q2, q3, q4, q5, q6⟩ := Box.seven (BY6.out.kept hB.1 (by simpa using hg2))
        refine StepP.val _ rfl rfl (wanted_some (g := 10) (b := true) rfl gd) (evV Y (.slice Ay Y.params.length cy)) w' (fun ρ hρ => ?_) (BackEv.of (by decide) (Below.refl _ _)) (BackPhi.put (by decide) (by simp [backCst]))
        · skip
          rw [hρ] at ev
          clear hB hsame hdep hcl hP hρ hsz gd
          simp only [evV, ecells]
          go_simp
      · intro L a w' hL hsame hsz hB hdep hcl hP
        have gd : valOf _ 10 a = .bool true := (hP 10 (dep_of hdep 10 (by kernel_rfl))).val (by decide) (by simp [backCst])
        have ev : a.eval (.tmp 51) = (evV Y (.slice Ay Y.params.length cy)) := eval_slot (ops := _) (j := 14) (by kernel_rfl) ((hP 14 (dep_of hdep 14 (by kernel_rfl))).val (by decide) (by simp [backCst]))
        have hsw := hB.1.size
        refine StepP.val _ rfl rfl (wanted_some (g := 10) (b := true) rfl gd) (.slice (some ⟨w'.heap.size, 0, none⟩) 1 1) (w'.alloc (.cells #[.int .i64 Y.kind, .int .i32 Y.rune, .int .u8 Y.priv, .int .u8 Y.inter, .int .u8 Y.final, .slice Ay Y.params.length cy, .string (strOfNums Y.text)] 24)) (fun ρ hρ => ?_) (BackEv.of (by decide) ((Below.refl _ _).alloc (Nat.le_refl _) _)) ((BackPhi.oneY (by decide)).2 ⟨_, rfl, Box.new _ _ _, by omega⟩)
        · skip
          rw [hρ] at ev
          simp only [evV, ecells] at ev
          clear hB hsame hdep hcl hP hρ hsz gd
          go_simp
      · intro L a w' hL hsame hsz hB hdep hcl hP
        have gd : valOf _ 10 a = .bool true := (hP 10 (dep_of hdep 10 (by kernel_rfl))).val (by decide) (by simp [backCst])
        obtain ⟨g, hvg, hbg, _⟩ := (BackPhi.oneY (by decide)).1 (hP 15 (dep_of hdep 15 (by kernel_rfl)))
        have ev : a.eval (.tmp 52) = .slice (some ⟨g, 0, none⟩) 1 1 := eval_slot (ops := _) (j := 15) (by kernel_rfl) hvg
        refine StepP.call _ rfl rfl (wanted_some (g := 10) (b := true) rfl gd) 10 #[.slice (some ⟨g, 0, none⟩) 1 1] (fun ρ hρ => ?_) ?_
        · rw [hρ] at ev
          have ef : ρ (.func 10) = .func (.func 10) #[] #[] := (hρ _).symm
          clear hB hsame hdep hcl hP hρ hsz gd
          go_simp
        · refine (PRY.out g w' hB.1 hbg).mono ?_
          intro e w2 hE
          obtain ⟨v, rfl, bb, hv⟩ := encoded_at (gP := gP) hE (by have := hB.1.size; omega)
          exact ⟨v, rfl, BackEv.of (by decide) bb, BackPhi.bY.2 hv⟩
      · intro L a w' hL hsame hsz hB hdep hcl hP
        have gd : valOf _ 10 a = .bool true := (hP 10 (dep_of hdep 10 (by kernel_rfl))).val (by decide) (by simp [backCst])
        obtain ⟨A, c, hv, hs, _⟩ := BackPhi.bX.1 (hP 13 (dep_of hdep 13 (by kernel_rfl)))
        obtain ⟨A', c', hv', hs', _⟩ := BackPhi.bY.1 (hP 16 (dep_of hdep 16 (by kernel_rfl)))
        have e1 : a.eval (.tmp 50) = .slice A bsX.length c := eval_slot (ops := _) (j := 13) (by kernel_rfl) hv
        have e2 : a.eval (.tmp 53) = .slice A' bsY.length c' := eval_slot (ops := _) (j := 16) (by kernel_rfl) hv'
        refine StepP.call _ rfl rfl (wanted_some (g := 10) (b := true) rfl gd) 22 #[.slice A bsX.length c, .slice A' bsY.length c'] (fun ρ hρ => ?_) ?_
        · rw [hρ] at e1 e2
          have ef : ρ (.func 22) = .func (.func 22) #[] #[] := (hρ _).symm
          clear hB hsame hdep hcl hP hρ hsz gd
          go_simp
        · refine (sameB_u8 bsX bsY A A' w'.heap.size w'.heap.size bsX.length c bsY.length c' w' hs hs' (by have := HLX.out; omega)).mono ?_
          rintro e w2 ⟨rfl, q, rfl⟩
          exact ⟨_, rfl, BackEv.of (by decide) (below_drewN (Below.refl _ _) _), BackPhi.put (by decide) (by simp only [backCst]; rw [HBQ.out.1]; rfl)⟩
      · intro L a w' hL hsame hsz hB hdep hcl hP
        have gd : valOf _ 10 a = .bool true := (hP 10 (dep_of hdep 10 (by kernel_rfl))).val (by decide) (by simp [backCst])
        have ev : a.eval (.tmp 10) = (.pointer (some ⟨g1, 0, none⟩)) := eval_base hsame (by kernel_rfl)
        obtain ⟨q0, q1, q2, q3, q4, q5, q6⟩ := Box.seven (BX6.out.kept hB.1 (by simpa using hg1))
        refine StepP.val _ rfl rfl (wanted_some (g := 10) (b := true) rfl gd) (evV X (.slice Ax X.params.length cx)) w' (fun ρ hρ => ?_) (BackEv.of (by decide) (Below.refl _ _)) (BackPhi.put (by decide) (by simp [backCst]))
        · skip
          rw [hρ] at ev
          clear hB hsame hdep hcl hP hρ hsz gd
          simp only [evV, ecells]
          go_simp
      · intro L a w' hL hsame hsz hB hdep hcl hP
        have gd : valOf _ 10 a = .bool true := (hP 10 (dep_of hdep 10 (by kernel_rfl))).val (by decide) (by simp [backCst])
        have ev : a.eval (.tmp 55) = (evV X (.slice Ax X.params.length cx)) := eval_slot (ops := _) (j := 18) (by kernel_rfl) ((hP 18 (dep_of hdep 18 (by kernel_rfl))).val (by decide) (by simp [backCst]))
        have hsw := hB.1.size
        refine StepP.val _ rfl rfl (wanted_some (g := 10) (b := true) rfl gd) (.slice (some ⟨w'.heap.size, 0, none⟩) 1 1) (w'.alloc (.cells #[.int .i64 X.kind, .int .i32 X.rune, .int .u8 X.priv, .int .u8 X.inter, .int .u8 X.final, .slice Ax X.params.length cx, .string (strOfNums X.text)] 24)) (fun ρ hρ => ?_) (BackEv.of (by decide) ((Below.refl _ _).alloc (Nat.le_refl _) _)) ((BackPhi.oneX (by decide)).2 ⟨_, rfl, Box.new _ _ _, by omega⟩)
        · skip
          rw [hρ] at ev
          simp only [evV, ecells] at ev
          clear hB hsame hdep hcl hP hρ hsz gd
          go_simp
      · intro L a w' hL hsame hsz hB hdep hcl hP
        have gd : valOf _ 10 a = .bool true := (hP 10 (dep_of hdep 10 (by kernel_rfl))).val (by decide) (by simp [backCst])
        have ev : a.eval (.tmp 11) = (.pointer (some ⟨g2, 0, none⟩)) := eval_base hsame (by kernel_rfl)
        obtain ⟨q0, q1, q2, q3, q4, q5, q6⟩ := Box.seven (BY6.out.kept hB.1 (by simpa using hg2))
        refine StepP.val _ rfl rfl (wanted_some (g := 10) (b := true) rfl gd) (evV Y (.slice Ay Y.params.length cy)) w' (fun ρ hρ => ?_) (BackEv.of (by decide) (Below.refl _ _)) (BackPhi.put (by decide) (by simp [backCst]))
        · skip
          rw [hρ] at ev
          clear hB hsame hdep hcl hP hρ hsz gd
          simp only [evV, ecells]
          go_simp
      · intro L a w' hL hsame hsz hB hdep hcl hP
        have gd : valOf _ 10 a = .bool true := (hP 10 (dep_of hdep 10 (by kernel_rfl))).val (by decide) (by simp [backCst])
        have ev : a.eval (.tmp 57) = (evV Y (.slice Ay Y.params.length cy)) := eval_slot (ops := _) (j := 20) (by kernel_rfl) ((hP 20 (dep_of hdep 20 (by kernel_rfl))).val (by decide) (by simp [backCst]))
        have hsw := hB.1.size
        refine StepP.val _ rfl rfl (wanted_some (g := 10) (b := true) rfl gd) (.slice (some ⟨w'.heap.size, 0, none⟩) 1 1) (w'.alloc (.cells #[.int .i64 Y.kind, .int .i32 Y.rune, .int .u8 Y.priv, .int .u8 Y.inter, .int .u8 Y.final, .slice Ay Y.params.length cy, .string (strOfNums Y.text)] 24)) (fun ρ hρ => ?_) (BackEv.of (by decide) ((Below.refl _ _).alloc (Nat.le_refl _) _)) ((BackPhi.oneY (by decide)).2 ⟨_, rfl, Box.new _ _ _, by omega⟩)
        · skip
          rw [hρ] at ev
          simp only [evV, ecells] at ev
          clear hB hsame hdep hcl hP hρ hsz gd
          go_simp
      · intro L a w' hL hsame hsz hB hdep hcl hP
        have gd : valOf _ 10 a = .bool true := (hP 10 (dep_of hdep 10 (by kernel_rfl))).val (by decide) (by simp [backCst])
        obtain ⟨g, hvg, hbg, _⟩ := (BackPhi.oneX (by decide)).1 (hP 19 (dep_of hdep 19 (by kernel_rfl)))
        have e1 : a.eval (.tmp 56) = .slice (some ⟨g, 0, none⟩) 1 1 := eval_slot (ops := _) (j := 19) (by kernel_rfl) hvg
        obtain ⟨h, hvh, hbh, _⟩ := (BackPhi.oneY (by decide)).1 (hP 21 (dep_of hdep 21 (by kernel_rfl)))
        have e2 : a.eval (.tmp 58) = .slice (some ⟨h, 0, none⟩) 1 1 := eval_slot (ops := _) (j := 21) (by kernel_rfl) hvh
        refine StepP.call _ rfl rfl (wanted_some (g := 10) (b := true) rfl gd) 18 #[.slice (some ⟨g, 0, none⟩) 1 1, .slice (some ⟨h, 0, none⟩) 1 1] (fun ρ hρ => ?_) ?_
        · rw [hρ] at e1 e2
          have ef : ρ (.func 18) = .func (.func 18) #[] #[] := (hρ _).symm
          clear hB hsame hdep hcl hP hρ hsz gd
          go_simp
        · refine (EVB.out g h w' hB.1 hbg hbh).mono ?_
          rintro e w2 ⟨rfl, bb⟩
          exact ⟨_, rfl, BackEv.of (by decide) bb, (BackPhi.put (by decide) (by simp [backCst]))⟩
      · intro L a w' hL hsame hsz hB hdep hcl hP
        have gd : valOf _ 10 a = .bool true := (hP 10 (dep_of hdep 10 (by kernel_rfl))).val (by decide) (by simp [backCst])
        have e1 : a.eval (.tmp 54) = (.bool bq) := eval_slot (ops := _) (j := 17) (by kernel_rfl) ((hP 17 (dep_of hdep 17 (by kernel_rfl))).val (by decide) (by simp [backCst]))
        have e2 : a.eval (.tmp 59) = (.bool bq) := eval_slot (ops := _) (j := 22) (by kernel_rfl) ((hP 22 (dep_of hdep 22 (by kernel_rfl))).val (by decide) (by simp [backCst]))
        refine StepP.val _ rfl rfl (wanted_some (g := 10) (b := true) rfl gd) (.bool true) w' (fun ρ hρ => ?_) (BackEv.of (by decide) (Below.refl _ _)) (BackPhi.put (by decide) (by simp [backCst]))
        · skip
          rw [hρ] at e1
          rw [hρ] at e2
          clear hB hsame hdep hcl hP hρ hsz gd
          go_simp
      · intro L a w' hL hsame hsz hB hdep hcl hP
        have ec : a.eval (.tmp 47) = (.bool true) := eval_slot (ops := _) (j := 10) (by kernel_rfl) ((hP 10 (dep_of hdep 10 (by kernel_rfl))).val (by decide) (by simp [backCst]))
        have ev : a.eval (.tmp 60) = (.bool true) := eval_slot (ops := _) (j := 23) (by kernel_rfl) ((hP 23 (dep_of hdep 23 (by kernel_rfl))).val (by decide) (by simp [backCst]))
        refine StepP.val _ rfl rfl (wanted_none rfl) (.bool true) w' (fun ρ hρ => ?_) (BackEv.of (by decide) (Below.refl _ _)) (BackPhi.put (by decide) (by simp [backCst]))
        · skip
          rw [hρ] at ec
          rw [hρ] at ev
          clear hB hsame hdep hcl hP hρ hsz 
          go_simp
      · intro L a w' hL hsame hsz hB hdep hcl hP
        have ev : a.eval (.tmp 61) = (.bool true) := eval_slot (ops := _) (j := 24) (by kernel_rfl) ((hP 24 (dep_of hdep 24 (by kernel_rfl))).val (by decide) (by simp [backCst]))
        refine StepP.val _ rfl rfl (wanted_none rfl) (.bool true) w' (fun ρ hρ => ?_) (BackEv.of (by decide) (Below.refl _ _)) (BackPhi.put (by decide) (by simp [backCst]))
        · skip
          rw [hρ] at ev
          clear hB hsame hdep hcl hP hρ hsz 
          go_simp
      · intro L a w' hL hsame hsz hB hdep hcl hP
        have gd : valOf _ 25 a = .bool true := (hP 25 (dep_of hdep 25 (by kernel_rfl))).val (by decide) (by simp [backCst])
        have ev : a.eval (.tmp 10) = (.pointer (some ⟨g1, 0, none⟩)) := eval_base hsame (by kernel_rfl)
        obtain ⟨q0, q1, q2, q3, q4, q5, q6⟩ := Box.seven (BX6.out.kept hB.1 (by simpa using hg1))
        refine StepP.val _ rfl rfl (wanted_some (g := 25) (b := true) rfl gd) (evV X (.slice Ax X.params.length cx)) w' (fun ρ hρ => ?_) (BackEv.of (by decide) (Below.refl _ _)) (BackPhi.put (by decide) (by simp [backCst]))
        · skip
          rw [hρ] at ev
          clear hB hsame hdep hcl hP hρ hsz gd
          simp only [evV, ecells]
          go_simp
      · intro L a w' hL hsame hsz hB hdep hcl hP
        have gd : valOf _ 25 a = .bool true := (hP 25 (dep_of hdep 25 (by kernel_rfl))).val (by decide) (by simp [backCst])
        have ev : a.eval (.tmp 11) = (.pointer (some ⟨g2, 0, none⟩)) := eval_base hsame (by kernel_rfl)
        obtain ⟨q0, q1, q2, q3, q4, q5, q6⟩ := Box.seven (BY6.out.kept hB.1 (by simpa using hg2))
        refine StepP.val _ rfl rfl (wanted_some (g := 25) (b := true) rfl gd) (evV Y (.slice Ay Y.params.length cy)) w' (fun ρ hρ => ?_) (BackEv.of (by decide) (Below.refl _ _)) (BackPhi.put (by decide) (by simp [backCst]))
        · skip
          rw [hρ] at ev
          clear hB hsame hdep hcl hP hρ hsz gd
          simp only [evV, ecells]
          go_simp
      · intro L a w' hL hsame hsz hB hdep hcl hP
        have gd : valOf _ 25 a = .bool true := (hP 25 (dep_of hdep 25 (by kernel_rfl))).val (by decide) (by simp [backCst])
        have e1 : a.eval (.tmp 63) = (evV X (.slice Ax X.params.length cx)) := eval_slot (ops := _) (j := 26) (by kernel_rfl) ((hP 26 (dep_of hdep 26 (by kernel_rfl))).val (by decide) (by simp [backCst]))
        have e2 : a.eval (.tmp 64) = (evV Y (.slice Ay Y.params.length cy)) := eval_slot (ops := _) (j := 27) (by kernel_rfl) ((hP 27 (dep_of hdep 27 (by kernel_rfl))).val (by decide) (by simp [backCst]))
        refine StepP.call _ rfl rfl (wanted_some (g := 25) (b := true) rfl gd) 13 #[(evV X (.slice Ax X.params.length cx)), (evV Y (.slice Ay Y.params.length cy))] (fun ρ hρ => ?_) ?_
        · rw [hρ] at e1 e2
          have ef : ρ (.func 13) = .func (.func 13) #[] #[] := (hρ _).symm
          clear hB hsame hdep hcl hP hρ hsz gd
          go_simp
        · refine (SSM.out w' hB.1).mono ?_
          rintro e w2 ⟨rfl, bb⟩
          exact ⟨_, rfl, BackEv.of (by decide) bb, (BackPhi.put (by decide) (by simp [backCst]))⟩
      · intro L a w' hL hsame hsz hB hdep hcl hP
        have gd : valOf _ 25 a = .bool true := (hP 25 (dep_of hdep 25 (by kernel_rfl))).val (by decide) (by simp [backCst])
        have ev : a.eval (.tmp 10) = (.pointer (some ⟨g1, 0, none⟩)) := eval_base hsame (by kernel_rfl)
        obtain ⟨q0, q1, q2, q3, q4, q5, q6⟩ := Box.seven (BX6.out.kept hB.1 (by simpa using hg1))
        refine StepP.val _ rfl rfl (wanted_some (g := 25) (b := true) rfl gd) (evV X (.slice Ax X.params.length cx)) w' (fun ρ hρ => ?_) (BackEv.of (by decide) (Below.refl _ _)) (BackPhi.put (by decide) (by simp [backCst]))
        · skip
          rw [hρ] at ev
          clear hB hsame hdep hcl hP hρ hsz gd
          simp only [evV, ecells]
          go_simp
      · intro L a w' hL hsame hsz hB hdep hcl hP
        have gd : valOf _ 25 a = .bool true := (hP 25 (dep_of hdep 25 (by kernel_rfl))).val (by decide) (by simp [backCst])
        have ev : a.eval (.tmp 66) = (evV X (.slice Ax X.params.length cx)) := eval_slot (ops := _) (j := 29) (by kernel_rfl) ((hP 29 (dep_of hdep 29 (by kernel_rfl))).val (by decide) (by simp [backCst]))
        have hsw := hB.1.size
        refine StepP.val _ rfl rfl (wanted_some (g := 25) (b := true) rfl gd) (.slice (some ⟨w'.heap.size, 0, none⟩) 1 1) (w'.alloc (.cells #[.int .i64 X.kind, .int .i32 X.rune, .int .u8 X.priv, .int .u8 X.inter, .int .u8 X.final, .slice Ax X.params.length cx, .string (strOfNums X.text)] 24)) (fun ρ hρ => ?_) (BackEv.of (by decide) ((Below.refl _ _).alloc (Nat.le_refl _) _)) ((BackPhi.oneX (by decide)).2 ⟨_, rfl, Box.new _ _ _, by omega⟩)
        · skip
          rw [hρ] at ev
          simp only [evV, ecells] at ev
          clear hB hsame hdep hcl hP hρ hsz gd
          go_simp
      · intro L a w' hL hsame hsz hB hdep hcl hP
        have gd : valOf _ 25 a = .bool true := (hP 25 (dep_of hdep 25 (by kernel_rfl))).val (by decide) (by simp [backCst])
        have ev : a.eval (.tmp 11) = (.pointer (some ⟨g2, 0, none⟩)) := eval_base hsame (by kernel_rfl)
        obtain ⟨q0, q1, q2, q3, q4, q5, q6⟩ := Box.seven (BY6.out.kept hB.1 (by simpa using hg2))
        refine StepP.val _ rfl rfl (wanted_some (g := 25) (b := true) rfl gd) (evV Y (.slice Ay Y.params.length cy)) w' (fun ρ hρ => ?_) (BackEv.of (by decide) (Below.refl _ _)) (BackPhi.put (by decide) (by simp [backCst]))
        · skip
          rw [hρ] at ev
          clear hB hsame hdep hcl hP hρ hsz gd
          simp only [evV, ecells]
          go_simp
      · intro L a w' hL hsame hsz hB hdep hcl hP
        have gd : valOf _ 25 a = .bool true := (hP 25 (dep_of hdep 25 (by kernel_rfl))).val (by decide) (by simp [backCst])
        have ev : a.eval (.tmp 68) = (evV Y (.slice Ay Y.params.length cy)) := eval_slot (ops := _) (j := 31) (by kernel_rfl) ((hP 31 (dep_of hdep 31 (by kernel_rfl))).val (by decide) (by simp [backCst]))
        have hsw := hB.1.size
        refine StepP.val _ rfl rfl (wanted_some (g := 25) (b := true) rfl gd) (.slice (some ⟨w'.heap.size, 0, none⟩) 1 1) (w'.alloc (.cells #[.int .i64 Y.kind, .int .i32 Y.rune, .int .u8 Y.priv, .int .u8 Y.inter, .int .u8 Y.final, .slice Ay Y.params.length cy, .string (strOfNums Y.text)] 24)) (fun ρ hρ => ?_) (BackEv.of (by decide) ((Below.refl _ _).alloc (Nat.le_refl _) _)) ((BackPhi.oneY (by decide)).2 ⟨_, rfl, Box.new _ _ _, by omega⟩)
        · skip
          rw [hρ] at ev
          simp only [evV, ecells] at ev
          clear hB hsame hdep hcl hP hρ hsz gd
          go_simp
      · intro L a w' hL hsame hsz hB hdep hcl hP
        have gd : valOf _ 25 a = .bool true := (hP 25 (dep_of hdep 25 (by kernel_rfl))).val (by decide) (by simp [backCst])
        obtain ⟨g, hvg, hbg, _⟩ := (BackPhi.oneX (by decide)).1 (hP 30 (dep_of hdep 30 (by kernel_rfl)))
        have e1 : a.eval (.tmp 67) = .slice (some ⟨g, 0, none⟩) 1 1 := eval_slot (ops := _) (j := 30) (by kernel_rfl) hvg
        obtain ⟨h, hvh, hbh, _⟩ := (BackPhi.oneY (by decide)).1 (hP 32 (dep_of hdep 32 (by kernel_rfl)))
        have e2 : a.eval (.tmp 69) = .slice (some ⟨h, 0, none⟩) 1 1 := eval_slot (ops := _) (j := 32) (by kernel_rfl) hvh
        refine StepP.call _ rfl rfl (wanted_some (g := 25) (b := true) rfl gd) 18 #[.slice (some ⟨g, 0, none⟩) 1 1, .slice (some ⟨h, 0, none⟩) 1 1] (fun ρ hρ => ?_) ?_
        · rw [hρ] at e1 e2
          have ef : ρ (.func 18) = .func (.func 18) #[] #[] := (hρ _).symm
          clear hB hsame hdep hcl hP hρ hsz gd
          go_simp
        · refine (EVB.out g h w' hB.1 hbg hbh).mono ?_
          rintro e w2 ⟨rfl, bb⟩
          exact ⟨_, rfl, BackEv.of (by decide) bb, (BackPhi.put (by decide) (by simp [backCst]))⟩
      · intro L a w' hL hsame hsz hB hdep hcl hP
        have gd : valOf _ 25 a = .bool true := (hP 25 (dep_of hdep 25 (by kernel_rfl))).val (by decide) (by simp [backCst])
        have e1 : a.eval (.tmp 65) = (.bool bq) := eval_slot (ops := _) (j := 28) (by kernel_rfl) ((hP 28 (dep_of hdep 28 (by kernel_rfl))).val (by decide) (by simp [backCst]))
        have e2 : a.eval (.tmp 70) = (.bool bq) := eval_slot (ops := _) (j := 33) (by kernel_rfl) ((hP 33 (dep_of hdep 33 (by kernel_rfl))).val (by decide) (by simp [backCst]))
        refine StepP.val _ rfl rfl (wanted_some (g := 25) (b := true) rfl gd) (.bool true) w' (fun ρ hρ => ?_) (BackEv.of (by decide) (Below.refl _ _)) (BackPhi.put (by decide) (by simp [backCst]))
        · skip
          rw [hρ] at e1
          rw [hρ] at e2
          clear hB hsame hdep hcl hP hρ hsz gd
          go_simp
      · intro L a w' hL hsame hsz hB hdep hcl hP
        have ec : a.eval (.tmp 62) = (.bool true) := eval_slot (ops := _) (j := 25) (by kernel_rfl) ((hP 25 (dep_of hdep 25 (by kernel_rfl))).val (by decide) (by simp [backCst]))
        have ev : a.eval (.tmp 71) = (.bool true) := eval_slot (ops := _) (j := 34) (by kernel_rfl) ((hP 34 (dep_of hdep 34 (by kernel_rfl))).val (by decide) (by simp [backCst]))
        refine StepP.val _ rfl rfl (wanted_none rfl) (.bool true) w' (fun ρ hρ => ?_) (BackEv.of (by decide) (Below.refl _ _)) (BackPhi.put (by decide) (by simp [backCst]))
        · skip
          rw [hρ] at ec
          rw [hρ] at ev
          clear hB hsame hdep hcl hP hρ hsz 
          go_simp
      · intro L a w' hL hsame hsz hB hdep hcl hP
        have ev : a.eval (.tmp 72) = (.bool true) := eval_slot (ops := _) (j := 35) (by kernel_rfl) ((hP 35 (dep_of hdep 35 (by kernel_rfl))).val (by decide) (by simp [backCst]))
        refine StepP.val _ rfl rfl (wanted_none rfl) (.bool true) w' (fun ρ hρ => ?_) (BackEv.of (by decide) (Below.refl _ _)) (BackPhi.put (by decide) (by simp [backCst]))
        · skip
          rw [hρ] at ev
          clear hB hsame hdep hcl hP hρ hsz 
          go_simp
      · intro L a w' hL hsame hsz hB hdep hcl hP
        have gd : valOf _ 36 a = .bool true := (hP 36 (dep_of hdep 36 (by kernel_rfl))).val (by decide) (by simp [backCst])
        refine StepP.call _ rfl rfl (wanted_some (g := 36) (b := true) rfl gd) 3 #[] (fun ρ hρ => ?_) ?_
        · skip
          have ef : ρ (.func 3) = .func (.func 3) #[] #[] := (hρ _).symm
          clear hB hsame hdep hcl hP hρ hsz gd
          go_simp
        · refine (seqRuns_any w' (TENS.out w' hB.1)).mono ?_
          rintro e w2 ⟨rfl, bb⟩
          exact ⟨_, rfl, BackEv.of (by decide) bb, (BackPhi.put (by decide) (by simp [backCst]))⟩
      · intro L a w' hL hsame hsz hB hdep hcl hP
        have ec : a.eval (.tmp 73) = (.bool true) := eval_slot (ops := _) (j := 36) (by kernel_rfl) ((hP 36 (dep_of hdep 36 (by kernel_rfl))).val (by decide) (by simp [backCst]))
        have ev : a.eval (.tmp 74) = (.bool true) := eval_slot (ops := _) (j := 37) (by kernel_rfl) ((hP 37 (dep_of hdep 37 (by kernel_rfl))).val (by decide) (by simp [backCst]))
        refine StepP.val _ rfl rfl (wanted_none rfl) (.bool true) w' (fun ρ hρ => ?_) (BackEv.of (by decide) (Below.refl _ _)) (BackPhi.put (by decide) (by simp [backCst]))
        · skip
          rw [hρ] at ec
          rw [hρ] at ev
          clear hB hsame hdep hcl hP hρ hsz 
          go_simp
      · intro L a w' hL hsame hsz hB hdep hcl hP
        have ev : a.eval (.tmp 75) = (.bool true) := eval_slot (ops := _) (j := 38) (by kernel_rfl) ((hP 38 (dep_of hdep 38 (by kernel_rfl))).val (by decide) (by simp [backCst]))
        refine StepP.val _ rfl rfl (wanted_none rfl) (.bool true) w' (fun ρ hρ => ?_) (BackEv.of (by decide) (Below.refl _ _)) (BackPhi.put (by decide) (by simp [backCst]))
        · skip
          rw [hρ] at ev
          clear hB hsame hdep hcl hP hρ hsz 
          go_simp
      · intro L a w' hsame hsz hB hall hP
        have e6 : a.eval (.tmp 6) = .bool true := eval_slot (ops := _) (j := 39) (by kernel_rfl) ((hP 39 (by decide)).val (by decide) (by simp [backCst]))
        have hF := FIN.out w' hB.1
        have hdf : a.defers = [] := hsame.2.1
        have e7 : a.tmps.getD 6 undef = .bool true := e6
        clear hB hall hP hsame hsz e6
        (try simp only [Exit.then])
        go_step
        refine wp_ret ?_
        (try simp only [Exit.then, Exit.inBlock])
        refine bodyPost_ret (results_tmp rfl _ _ _) hdf ?_
        rw [e7]
        exact ⟨rfl, hF⟩
      · exact ⟨(Kept.refl _ _).drew, fun _ => PB6.out.drewN 1⟩
end Go.Proofs.YtnnjppgmadmmaaaDoor
