/- CharsetBack: what is drawn is undrawn; no rune is drawn twice; each plain byte can be printed, and is its own plain byte. -/
import Derived.Test.YtfadadpbomhbnaaDoorCharsetTexts
import Derived.Test.YtfadadpbomhbnaaDoorMapBool
namespace Go.Proofs.YtfadadpbomhbnaaDoor
open Go.RowKit Go.Maps
set_option linter.unusedVariables false
theorem keyed32 : Keyed Tryd.prog 21 := int_keyed Tryd.underlying21
theorem zeroBool (w : World) : (zeroValue 4).run Tryd.prog w = .ok (.bool false) w := by kernel_rfl
def keys32 (l : List Int) : List Lit := l.map (Lit.int .i32)
theorem keys32_key (l : List Int) : ∀ y ∈ keys32 l, WideAt.IsKeyLit y := by
  intro y hy
  obtain ⟨x, _, rfl⟩ := List.mem_map.1 hy
  trivial
theorem key32_of (x : Int) (h0 : 0 ≤ x) (h1 : x < 2147483648) : keyOf Tryd.prog 21 (.int .i32 x) = some (.int .i32 x) := by
  refine keyOf_int_mk Tryd.underlying21 ?_
  simp [Lit.wf, IntKind.min, IntKind.max, IntKind.bits, IntKind.signed]
  omega
theorem drawn_notmet {k : Nat} (hk : k < 31) : (keys32 (CH.drawn.take k)).any (fun y => y.sameKey (.int .i32 (CH.drawnAt k))) = false := by
  have : ∀ k : Fin 31, (keys32 (CH.drawn.take k.val)).any (fun y => y.sameKey (.int .i32 (CH.drawnAt k.val))) = false := by decide
  exact this ⟨k, hk⟩
theorem drawn_apart : (keys32 CH.drawn).Pairwise (fun x y => x.sameKey y = false) := by decide
theorem size_drawn : Maps.size (boolSet (H := Unit) (keys32 CH.drawn)) = 31 := size_boolSet (keys32_key _) drawn_apart
theorem drawn_step {k : Nat} (hk : k < 31) : keys32 (CH.drawn.take (k + 1)) = keys32 (CH.drawn.take k) ++ [.int .i32 (CH.drawnAt k)] := by
  rw [List.take_add_one, CH.drawnAt_is hk]
  simp [keys32]
/-- the map of what was met, of k runes -/
def Met (w : World) (g k : Nat) : Prop := w.ownsMap (H := Unit) Tryd.prog 21 (plainElem Tryd.prog 4) g k (boolSet (keys32 (CH.drawn.take k)))
theorem Met.start (w : World) : Met (w.alloc (.map #[] 0)) w.heap.size 0 := World.ownsMap_made w _ _ _
theorem Met.keep {w w' : World} {g k : Nat} (h : Met w g k) (hb : Below w.heap.size w w') : Met w' g k := World.ownsMap.kept h (grown_of_below hb none) (by simp)
theorem Met.look {w : World} {g k : Nat} (h : Met w g k) (hk : k < 31) : (Instr.lookup 32 (.map (some g)) (.int .i32 (CH.drawnAt k)) false).run Tryd.prog w = .ok (.bool false) w := by
  have hb := CH.drawnAt_bd hk
  exact lookup_bool_none h keyed32 Tryd.underlying32 Tryd.underlying4 (zeroBool w) (key32_of _ (by omega) (by omega)) (keys32_key _) (drawn_notmet hk)
theorem Met.len {w : World} {g : Nat} (h : Met w g 31) (ty : TypeId) : (Builtin.len_ #[32] ty #[.map (some g)]).run Tryd.prog w = .ok (.int .i64 31) w := by
  have := World.ownsMap.len h Tryd.underlying32 ty
  rw [List.take_of_length_le (by rw [CH.drawn_len]; omega), size_drawn] at this
  exact this
theorem back_facts {k : Nat} (hk : k < 31) : CH.draw (96 + (k : Int)) = CH.drawnAt k ∧ CH.undraw (CH.drawnAt k) = 96 + (k : Int) ∧ CH.undrawn (CH.drawnAt k) = true :=
  ⟨draw_is_drawn hk, (undraw_at hk (CH.place_drawn hk)).1, (undraw_at hk (CH.place_drawn hk)).2⟩
set_option maxHeartbeats 8000000 in
set_option maxRecDepth 100000 in
theorem charsetBack_any (n : Int) (w : World) (hn : (Lit.int .i64 n).wf = true) (hs : Signs w) :
    Calls Tryd.prog 5 #[.int .i64 n] w fun e w' => e = .returned (.bool true) ∧ Below w.heap.size w w' := by
  have HS := hide hs
  clear hs
  have hmm := @run_makeMap Tryd.prog
  obtain ⟨r, hr⟩ : ∃ r, IntKind.i32.wrap n = r := ⟨_, rfl⟩
  obtain ⟨p, hp⟩ : ∃ p, CH.plain r = p := ⟨_, rfl⟩
  have P := hide (fun w' h => plain_is r p hp w' h)
  have hpb := CH.plain_bd r
  have hpp := CH.plain_plain r
  rw [hp] at hpb hpp
  have PP := hide (fun w' h => plain_is p p hpp w' h)
  have p0 : 32 ≤ p := hpb.1
  have p1 : p < 127 := hpb.2
  have p2 : IntKind.i32.wrap p = p := IntWalk.i32_in _ (by omega)
  clear hp hpb hpp hn
  go_enter Tryd.func5, Tryd.ntmps5
  go_wp2_with fail
  go_loopw [4] (fun i wr => ∃ k : Nat, k ≤ 31 ∧ i = .int .i64 (96 + (k : Int)) ∧ Met wr w.heap.size k ∧ Below w.heap.size w wr) (fun i _ => 127 - (intOf i).toNat)
  case atStart => exact ⟨0, by omega, rfl, Met.start w, (Below.refl _ _).alloc (Nat.le_refl _) _⟩
  case round =>
    obtain ⟨k, hk, rfl, hm, b0⟩ := hrel
    have HM := hide hm
    clear hm
    obtain hlt | rfl : k < 31 ∨ k = 31 := by omega
    · obtain ⟨dj, uj, kj⟩ := back_facts hlt
      have U := hide (fun w' h => undraw_is (CH.drawnAt k) _ _ uj kj w' h)
      have D := hide (fun w' h => draw_is (96 + (k : Int)) _ dj w' (by omega) (by omega) h)
      have LK := hide (fun w' (h : Met w' w.heap.size k) => h.look hlt)
      have ST := hide (drawn_step hlt)
      have KY := hide (key32_of (CH.drawnAt k) (by have := CH.drawnAt_bd hlt; omega) (by have := CH.drawnAt_bd hlt; omega))
      have wk : IntKind.u8.wrap (96 + (k : Int)) = 96 + (k : Int) := IntWalk.u8_in _ (by omega)
      have le126 : 96 + (k : Int) ≤ 126 := by omega
      generalize CH.drawnAt k = x at U D LK ST KY dj uj kj
      clear dj uj kj
      go_wp2_with fail
      refine (D.out _ (HS.out.keep b0)).mono ?_
      rintro e w1 ⟨rfl, bb⟩
      have b1 := b0.trans (bb.mono b0.size)
      have H1 := hide (HM.out.keep bb)
      clear bb b0 HM
      go_wp2_with fail
      refine (U.out _ (HS.out.keep b1)).mono ?_
      rintro e w2 ⟨rfl, bb⟩
      have b2 := b1.trans (bb.mono b1.size)
      have H2 := hide (H1.out.keep bb)
      clear bb b1 H1
      have lk := LK.out _ H2.out
      go_wp2_with (at_mapUpdate; refine wpList_mapUpdate_own (H := Unit) _ rfl _ _ _ 32 rfl 21 4 keyed32 Tryd.underlying32 _ w.heap.size k _ rfl H2.out (by unfold maxLen; omega) _ _ _ rfl rfl KY.out _ [] (plainElem_bool Tryd.underlying4 _) ?_; intro w3 hown3 hg3)
      go_roundw
      case rel =>
        refine ⟨k + 1, by omega, by go_num, ?_, b2.grown hg3 b2.size (fun j hj => by cases hj; exact Nat.le_refl _)⟩
        unfold Met
        rw [ST.out, boolSet_snoc]
        exact hown3
      case measure => simp [intOf]; omega
    · have LE := hide (fun w' (h : Met w' w.heap.size 31) ty => h.len ty)
      go_wp2_with fail
      refine (P.out _ (HS.out.keep b0)).mono ?_
      rintro e w1 ⟨rfl, bb⟩
      have b1 := b0.trans (bb.mono b0.size)
      have H1 := hide (HM.out.keep bb)
      clear bb b0 HM
      go_wp2_with fail
      refine (PP.out _ (HS.out.keep b1)).mono ?_
      rintro e w2 ⟨rfl, bb⟩
      have b2 := b1.trans (bb.mono b1.size)
      have H2 := hide (H1.out.keep bb)
      clear bb b1 H1
      have le := LE.out _ H2.out
      go_wp2_with fail
      refine (charsetRuns_any _ (HS.out.keep b2)).mono ?_
      rintro e w3 ⟨rfl, bb⟩
      have b3 := b2.trans (bb.mono b2.size)
      clear bb b2
      go_wp2_with fail
      go_ret
      exact ⟨rfl, b3⟩
end Go.Proofs.YtfadadpbomhbnaaDoor
