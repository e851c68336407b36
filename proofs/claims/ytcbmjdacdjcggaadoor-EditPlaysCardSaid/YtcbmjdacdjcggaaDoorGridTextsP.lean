/- What GridTexts calls beside: linguistkeep's Grid of numbers, told of a plain grid; a range over a row's text. -/
import Derived.Test.YtcbmjdacdjcggaaDoorGridVar
import Derived.Test.YtcbmjdacdjcggaaDoorGridKeepG
import Derived.Test.YtcbmjdacdjcggaaDoorArgs
import Derived.Lib.OthersKept
set_option maxRecDepth 100000
namespace Go.Proofs.YtcbmjdacdjcggaaDoor
open Go.RowKit
set_option linter.unusedVariables false
theorem u_keepGrid (rw_ cl : Int) (R K nr cr np cp : Nat) (rs ps : List Int) (Ar Ap : Option Addr) (w w' : World) (b : Below w.heap.size w w') (hR : 1 + rw_ % (5 - 1 + 1) = (R : Int)) (hK : 1 + cl % (9 - 1 + 1) = (K : Int)) (hr : -9223372036854775808 ≤ rw_ ∧ rw_ ≤ 9223372036854775807) (hc : -9223372036854775808 ≤ cl ∧ cl ≤ 9223372036854775807)
    (hs : Arg .i64 w Ar nr cr rs) (hp : Arg .i64 w Ap np cp ps) :
    Calls Tryd.prog 16 #[.agg #[.int .i64 rw_, .int .i64 cl, .slice Ar nr cr, .slice Ap np cp]] w' (GotG w' (PG.ofL R K (PG.keepCells rs ps R K))) := by
  have h1 := hs.le
  have h2 := hs.cap
  have h3 := hp.le
  have h4 := hp.cap
  unfold maxLen at h2 h4
  refine (keepGrid_any rw_ cl R K nr cr np cp w.heap.size rs ps Ar Ap w' hR hK hr.1 hr.2 hc.1 hc.2 (hs.seen.below b) (hp.seen.below b) b.size (by omega) (by omega) (fun x hx => bounds_i64 (hs.wf x hx)) (fun x hx => bounds_i64 (hp.wf x hx))).mono fun e w' hm => ?_
  exact got_gave hm (PG.keep_cells rs ps R K).symm rfl rfl
theorem keepG_right (rs ps : List Int) {R K : Nat} (h1 : 1 ≤ R) (h2 : R ≤ 5) (h3 : 1 ≤ K) (h4 : K ≤ 9) : PG.RightG (PG.ofL R K (PG.keepCells rs ps R K)) := PG.keep_right rs ps h1 (by omega) h3 (by omega)
/-- a range over a text comes to its next rune: `pre` is behind it, `x` ahead -/
theorem text_next {pre post : List Int} {x : Int} (h : U.isR x = true) : pre.length < (strOfNums (pre ++ (U.en x ++ post))).size ∧ Utf8.decode (strOfNums (pre ++ (U.en x ++ post))) pre.length = (x.toNat, (U.en x).length) := by
  refine ⟨?_, decode_en h⟩
  have : 0 < (U.en x).length := by
    unfold U.en
    split
    · simp
    · split
      · simp
      · split <;> simp
  rw [str_size, List.length_append, List.length_append]
  omega
theorem text_round {done rest : List Int} {x : Int} (h : ∀ y ∈ done ++ x :: rest, U.isR y = true) : (U.enc done).length < (strOfNums (U.enc (done ++ x :: rest))).size ∧ Utf8.decode (strOfNums (U.enc (done ++ x :: rest))) (U.enc done).length = (x.toNat, (U.en x).length) ∧ (U.enc (done ++ [x])).length = (U.enc done).length + (U.en x).length ∧ 1 ≤ (U.en x).length ∧ 0 ≤ x ∧ x ≤ 1114111 := by
  have hx := h x (by simp)
  have e1 : U.en1 x = U.en x := by simp [U.en1, hx]
  have e : U.enc (done ++ x :: rest) = U.enc done ++ (U.en x ++ U.enc rest) := by simp [U.enc, e1]
  have hn := text_next (pre := U.enc done) (post := U.enc rest) hx
  rw [e]
  refine ⟨hn.1, hn.2, by rw [U.enc_snoc, e1, List.length_append], en_pos x, ?_⟩
  have := isR_iff.1 hx
  omega
theorem wrap_succ {c : Nat} (h : c ≤ 9) : wrap64 ((c : Int) + 1) = (c : Int) + 1 := by unfold wrap64; omega
theorem meas_succ {k K : Nat} (h : k < K) : K - (intOf (.int .i64 ((k : Int) + 1))).toNat < K - (intOf (.int .i64 (k : Int))).toNat := by
  show K - ((k : Int) + 1).toNat < K - (k : Int).toNat
  omega
theorem text_end (done : List Int) : ¬ (U.enc done).length < (strOfNums (U.enc (done ++ []))).size := by
  rw [List.append_nil, str_size]
  omega
/-- a grid stored over a box -/
theorem store_grid {w : World} {G : PG.Gr} {g B R K : Nat} {cs : Array Value} {s : Value} (hb : Box w g 27 cs) (hs : cs.size = 3) (hR : G.rows = R) (hK : G.cols = K) (hg : IsG w G (gv R K s)) (hB : B ≤ g) : GBox (set3 w g (.int .i64 R) (.int .i64 K) s) G g ∧ Below B w (set3 w g (.int .i64 R) (.int .i64 K) s) := by
  subst hR hK
  have k := set3_kept w g (.int .i64 G.rows) (.int .i64 G.cols) s
  exact ⟨⟨s, set3_box hb hs _ _ _, hg.kept hb (by decide) k⟩, k.toBelow (Nat.le_trans hB (Nat.le_of_lt hb.lt)) (by simp; omega)⟩
end Go.Proofs.YtcbmjdacdjcggaaDoor
