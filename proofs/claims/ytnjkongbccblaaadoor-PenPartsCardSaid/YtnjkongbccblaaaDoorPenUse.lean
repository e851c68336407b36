/- The contracts of the landed pen.Say, Between; Apply of parameters that were just laid. -/
import Derived.Test.YtnjkongbccblaaaDoorPenColC
set_option maxRecDepth 100000
namespace Go.Proofs.YtnjkongbccblaaaDoor
open Go.RowKit
set_option linter.unusedVariables false
theorem i64_and_small {x y : Nat} (hx : x < 256) (hy : y < 256) : bits .and .i64 (x : Int) (y : Int) = ((x &&& y : Nat) : Int) := by
  show IntKind.i64.wrap ((BitVec.ofInt 64 (x : Int) &&& BitVec.ofInt 64 (y : Int)).toNat : Int) = _
  rw [BitVec.toNat_and, BitVec.ofInt_natCast, BitVec.ofInt_natCast, BitVec.toNat_ofNat, BitVec.toNat_ofNat, Nat.mod_eq_of_lt (a := x) (by omega), Nat.mod_eq_of_lt (a := y) (by omega), IntKind.wrap_i64]
  have : x &&& y < 256 := PS.and_lt hx
  omega
/-- the parameters of the flags below k -/
def sf (fl k : Nat) : List Int := ((List.range k).filter fun n => decide (fl &&& PS.flagOf n ≠ 0)).map fun n : Nat => (n : Int)
theorem sf_succ (fl k : Nat) : sf fl (k + 1) = sf fl k ++ (if fl &&& PS.flagOf k ≠ 0 then [(k : Int)] else []) := by
  unfold sf
  rw [List.range_succ, List.filter_append, List.map_append]
  congr 1
  by_cases h : fl &&& PS.flagOf k ≠ 0
  · rw [if_pos h]
    simp [h]
  · rw [if_neg h]
    simp at h
    simp [h]
theorem sf_ten (fl : Nat) : sf fl 10 = PS.sayFlags fl := by
  unfold sf PS.sayFlags
  have e0 : (fl &&& PS.flagOf 0) = 0 := Nat.and_zero fl
  have e6 : (fl &&& PS.flagOf 6) = 0 := Nat.and_zero fl
  rw [show List.range 10 = [0] ++ ([1, 2, 3, 4, 5] ++ ([6] ++ [7, 8, 9])) from rfl, List.filter_append, List.filter_append, List.filter_append, List.filter_cons_of_neg (by simp [e0]), List.filter_cons_of_neg (a := 6) (by simp [e6]), List.filter_nil, List.nil_append, List.nil_append, ← List.filter_append]
  rfl
theorem sf_len (fl : Nat) : ∀ k, (sf fl k).length ≤ k := by
  intro k
  unfold sf
  rw [List.length_map]
  exact Nat.le_trans (List.length_filter_le _ _) (by simp)
theorem size_flags : (Tryd.prog.info? 44).map (·.size) = some flagCells.size := by kernel_rfl
set_option maxHeartbeats 8000000 in
theorem psay_is (q : PS.Pn) (w : World) (hq : PR q) (hF : FlagT w) :
    Calls Tryd.prog 11 #[penV q] w fun e w' => ∃ v, e = .returned v ∧ w'.ownsRow w.heap.size 3 1 v (PS.say q).length (j64s (PS.say q)) ∧ Below w.heap.size w w' := by
  obtain ⟨i0, hi, hz0, hz1, hz2⟩ := info_parts info_int9
  obtain ⟨fo, ba, fl⟩ := q
  obtain ⟨hfl, hfo, hba⟩ := hq
  have SF := hide (fun w' base n v xs h1 h2 h3 => sayColor_is fo 30 hfo (.inl rfl) w' base n v xs h1 h2 h3)
  have SB := hide (fun w' base n v xs h1 h2 h3 => sayColor_is ba 40 hba (.inr rfl) w' base n v xs h1 h2 h3)
  have hlf := PS.sayColour_len fo 30
  have hlb := PS.sayColour_len ba 40
  have E := hide (show PS.say ⟨fo, ba, fl⟩ = (0 :: sf fl 10) ++ (PS.sayColour fo 30 ++ PS.sayColour ba 40) by rw [sf_ten]; rfl)
  generalize PS.sayColour fo 30 = LF at SF hlf E
  generalize PS.sayColour ba 40 = LB at SB hlb E
  have HFL := hide (show fl < 256 from hfl)
  have B0 := ((Below.refl _ w).alloc (Nat.le_refl _) (.cells #[.int .i64 fo, .int .i64 ba, .int .i64 (fl : Nat)] 23))
  have BP := Box.new w 23 #[.int .i64 fo, .int .i64 ba, .int .i64 (fl : Nat)]
  have B1 := hide (B0.alloc B0.size (.cells #[.int .i64 0] 3))
  have BP1 := hide (BP.alloc (.cells #[.int .i64 0] 3))
  have O1 := hide (World.ownsRow_lit (base := w.heap.size) (e := 3) (size := 1) (w.alloc (.cells #[.int .i64 fo, .int .i64 ba, .int .i64 (fl : Nat)] 23)) #[.int .i64 0] 1 (by simp) (by decide) rfl)
  have F1 := hF.keep B1.out
  obtain ⟨tt, hg⟩ := F1
  have SC := hide size_flags
  have SI := hide flag_index
  generalize hcs : flagCells = cs at hg SI SC
  clear hcs hfl hfo hba B0 BP hF
  simp only [penV]
  go_enter Tryd.func11, Tryd.ntmps11
  go_wp2_with (refine wpList_load_row rfl 44 _ rfl 0 rfl tt cs (0, 0) _ hg Tryd.underlying44 rfl SC.out ?_)
  clear hg
  go_loopw [3, 8] (fun v i wr => ∃ k : Nat, k ≤ 10 ∧ i = .int .i64 k ∧ wr.ownsRow w.heap.size 3 1 v (1 + (sf fl k).length) (j64s (0 :: sf fl k)) ∧ Hid (Box wr w.heap.size 23 #[.int .i64 fo, .int .i64 ba, .int .i64 (fl : Nat)]) ∧ Below w.heap.size w wr) (fun _ i _ => 10 - (intOf i).toNat)
  case atStart => exact ⟨0, by omega, rfl, (by have h := O1.out; rw [World.size_alloc] at h; exact h), BP1, B1.out⟩
  case round =>
    obtain ⟨k, hk, rfl, hown, hbx, hbel⟩ := hrel
    have hsz := hbel.size
    obtain ⟨k0, k1, k2, k3, k4, k5⟩ := hbx.out.three
    by_cases hlt : k < 10
    · have si := fun w' => SI.out w' k hlt
      have hsucc := sf_succ fl k
      have hlen := sf_len fl k
      have ha := i64_and_small HFL.out (PS.flag_lt k)
      generalize PS.flagOf k = fv at si hsucc ha
      by_cases hf : fl &&& fv = 0
      · rw [if_neg (by omega), List.append_nil] at hsucc
        have t1 : (bits .and .i64 (fl : Int) (fv : Int) != 0) = false := by rw [ha, hf]; rfl
        rw [← hsucc] at hown
        have HO := hide hown
        clear ha hf hown hsucc hlen
        go_wp2
        go_roundw
        case rel => exact ⟨k + 1, by omega, by go_num, HO.out, hbx, hbel⟩
        case measure => simp [intOf]; omega
      · rw [if_pos (by omega)] at hsucc
        have t1 : (bits .and .i64 (fl : Int) (fv : Int) != 0) = true := by rw [ha]; simp; omega
        have HS := hide hsucc
        generalize hL : sf fl k = L at hown HS hlen
        clear hL
        clear ha hf hsucc
        go_wp2_with (at_builtin; go_must (refine wpList_app1 rfl (.tmp 17) (.tmp 19) 27 rfl w.heap.size 3 i0 _ 8 Tryd.underlying27 hi hz0 hz1 hz2 rfl u3 (1 + L.length) _ rfl hown _ _ _ rfl (by simp) rfl (by omega) (by omega) hsz ?_); intro v1 w1 hown1 hg1 hm1)
        go_roundw
        case rel =>
          refine ⟨k + 1, by omega, by go_num, ?_, hide (hbx.out.grown hg1 (fun e => hbx.out.notOwn hown (by decide) e)), hbel.grown hg1 hsz (fun g hg => (hown.lt g hg).1)⟩
          rw [HS.out]
          have e1 : 1 + (L ++ [(k : Int)]).length = 1 + L.length + 1 := by simp; omega
          have e2 : j64s (0 :: (L ++ [(k : Int)])) = j64s (0 :: L) ++ [.int .i64 (k : Int)] := by simp [j64s]
          rw [e1, e2]
          exact hown1
        case measure => simp [intOf]; omega
    · obtain rfl : k = 10 := by omega
      have hlen := sf_len fl 10
      generalize sf fl 10 = L at hown E hlen
      have HO := hide hown
      have C1 := hide (SF.out wr w.heap.size (1 + L.length) u3 _ hown (by omega) hsz)
      clear hown SI SC O1 BP1 B1
      go_wp2_with fail
      refine C1.out.mono ?_
      rintro e w2 ⟨v2, rfl, h2, g2, m2⟩
      have b2 := hbel.grown g2 hsz (fun g hg => (HO.out.lt g hg).1)
      have hbx2 := hbx.out.grown g2 (fun e => hbx.out.notOwn HO.out (by decide) e)
      obtain ⟨p0, p1, p2, p3, p4, p5⟩ := hbx2.three
      have HO2 := hide h2
      have C2 := hide (SB.out w2 w.heap.size _ v2 _ h2 (by rw [j64s_len]; omega) b2.size)
      clear k0 k1 k2 k3 k4 k5 h2 g2 m2 C1
      go_wp2_with fail
      refine C2.out.mono ?_
      rintro e w3 ⟨v3, rfl, h3, g3, m3⟩
      have b3 := b2.grown g3 b2.size (fun g hg => (HO2.out.lt g hg).1)
      have e1 : (PS.say ⟨fo, ba, fl⟩).length = 1 + L.length + (j64s LF).length + (j64s LB).length := by rw [E.out]; simp [j64s]; omega
      have e2 : j64s (PS.say ⟨fo, ba, fl⟩) = j64s (0 :: L) ++ j64s LF ++ j64s LB := by rw [E.out]; simp [j64s]
      have FIN := hide (show w3.ownsRow w.heap.size 3 1 v3 (PS.say ⟨fo, ba, fl⟩).length (j64s (PS.say ⟨fo, ba, fl⟩)) by rw [e1, e2]; exact h3)
      clear e1 e2 h3 g3 m3 C2 HO2 HO
      go_wp2_with fail
      go_ret
      exact ⟨v3, rfl, FIN.out, b3⟩
theorem betw_same {p q : PS.Pn} (h : p.fo = q.fo ∧ p.ba = q.ba ∧ p.fl = q.fl) : betw p q = [] := by unfold betw; rw [if_pos h]
theorem betw_not {p q : PS.Pn} (h : ¬ (p.fo = q.fo ∧ p.ba = q.ba ∧ p.fl = q.fl)) : betw p q = PS.say q := by unfold betw; rw [if_neg h]
set_option maxHeartbeats 4000000 in
theorem pbetw_is (p q : PS.Pn) (w : World) (hp : PR p) (hq : PR q) (hF : FlagT w) :
    Calls Tryd.prog 12 #[penV p, penV q] w fun e w' => ∃ v, e = .returned v ∧ w'.ownsRow w.heap.size 3 1 v (betw p q).length (j64s (betw p q)) ∧ Below w.heap.size w w' := by
  obtain ⟨pf, pb, pg⟩ := p
  obtain ⟨qf, qb, qg⟩ := q
  have B0 := (((Below.refl _ w).alloc (Nat.le_refl _) (.cells #[.int .i64 pf, .int .i64 pb, .int .i64 (pg : Nat)] 23)).alloc (by simp) (.cells #[.int .i64 qf, .int .i64 qb, .int .i64 (qg : Nat)] 23))
  by_cases h : pf = qf ∧ pb = qb ∧ pg = qg
  · rw [betw_same (p := ⟨pf, pb, pg⟩) (q := ⟨qf, qb, qg⟩) h]
    obtain ⟨rfl, rfl, rfl⟩ := h
    have ep : ∀ w' : World, (binOp .eql 23 (.agg #[.int .i64 pf, .int .i64 pb, .int .i64 (pg : Nat)]) (.agg #[.int .i64 pf, .int .i64 pb, .int .i64 (pg : Nat)])).run Tryd.prog w' = .ok (.bool true) w' := fun w' => by rw [eql_pen10]; simp
    simp only [penV]
    go_enter Tryd.func12, Tryd.ntmps12
    go_wp2_with fail
    go_ret
    exact ⟨_, rfl, World.ownsRow_nil _ _ _ _, B0⟩
  · rw [betw_not (p := ⟨pf, pb, pg⟩) (q := ⟨qf, qb, qg⟩) h]
    have hne : (pf == qf && pb == qb && (pg : Int) == (qg : Int)) = false := by
      rw [Bool.eq_false_iff]
      intro hh
      simp at hh
      exact h ⟨hh.1.1, hh.1.2, by omega⟩
    have ep : ∀ w' : World, (binOp .eql 23 (.agg #[.int .i64 pf, .int .i64 pb, .int .i64 (pg : Nat)]) (.agg #[.int .i64 qf, .int .i64 qb, .int .i64 (qg : Nat)])).run Tryd.prog w' = .ok (.bool false) w' := fun w' => by rw [eql_pen10, hne]
    have S := hide (fun w' h => psay_is ⟨qf, qb, qg⟩ w' hq h)
    have FT := hide (hF.keep B0)
    have HB := hide B0
    generalize PS.say ⟨qf, qb, qg⟩ = SY at S ⊢
    simp only [penV] at S ⊢
    clear h hne hp hq B0
    go_enter Tryd.func12, Tryd.ntmps12
    go_wp2_with fail
    refine (S.out _ FT.out).mono ?_
    rintro e w2 ⟨v, rfl, ho, bb⟩
    have FIN := hide (own_base' ho HB.out.size)
    have b2 := HB.out.trans (bb.mono HB.out.size)
    clear ho bb
    go_wp2_with fail
    go_ret
    exact ⟨v, rfl, FIN.out, b2⟩
/-- Apply of parameters that were just laid -/
theorem papply_box (p q : PS.Pn) (l : List Int) (n : Nat) (hn : l.length = n) (hn' : n ≤ 1000) (hq : PS.apply p l = q) (hp : PR p) (hl : ∀ x ∈ l, -1 ≤ x ∧ x ≤ 65535) (g : Nat) (w : World) (hb : Box w g 3 (j64s l).toArray) (hF : FlagT w) :
    Calls Tryd.prog 8 #[penV p, .slice (some ⟨g, 0, none⟩) n n] w fun e w' => e = .returned (penV q) ∧ Below w.heap.size w w' :=
  papply_is p q _ n n (g + 1) l hq w hp (Seen.of_box hb rfl (by simp [j64s, hn]) (by omega)) (by omega) (Nat.le_refl _) (fun x hx => by have := hl x hx; omega) hF
theorem papply_boxO (p q : PS.Pn) (l : List Int) (n : Nat) (hn : l.length = n) (hn' : n ≤ 1000) (hq : PS.apply p l = q) (hp : PS.Ok p) (hl : ∀ x ∈ l, -1 ≤ x ∧ x ≤ 65535) (g : Nat) (w : World) (hb : Box w g 3 (j64s l).toArray) (hF : FlagT w) :
    Calls Tryd.prog 8 #[penV p, .slice (some ⟨g, 0, none⟩) n n] w fun e w' => e = .returned (penV q) ∧ Below w.heap.size w w' :=
  papply_ok p q _ n n (g + 1) l hq w hp (Seen.of_box hb rfl (by simp [j64s, hn]) (by omega)) (by omega) (Nat.le_refl _) (fun x hx => by have := hl x hx; omega) hF
theorem penV_def (fo ba : Int) (fl : Nat) : penV ⟨fo, ba, fl⟩ = .agg #[.int .i64 fo, .int .i64 ba, .int .i64 (fl : Nat)] := rfl
end Go.Proofs.YtnjkongbccblaaaDoor
