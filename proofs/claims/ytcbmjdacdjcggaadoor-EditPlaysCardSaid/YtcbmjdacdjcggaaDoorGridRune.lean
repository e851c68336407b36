/- 'string(runes)' is their UTF-8; a range over such a string meets these runes. Names no function of a program but the types. -/
import Derived.Test.YtcbmjdacdjcggaaDoorLists
import Derived.Test.YtcbmjdacdjcggaaDoorUtfSpec
import Derived.Laws.Cover4
import Derived.Laws.RangeAny
set_option maxRecDepth 100000
namespace Go.Proofs.YtcbmjdacdjcggaaDoor
open Go.RowKit
set_option linter.unusedVariables false
theorem str_app (l m : List Int) : strOfNums l ++ strOfNums m = strOfNums (l ++ m) := by
  apply ByteArray.ext
  simp [strOfNums, ByteArray.data_append]
theorem str_size (l : List Int) : (strOfNums l).size = l.length := by simp [strOfNums, ByteArray.size]
theorem isR_iff {r : Int} : U.isR r = true ↔ 0 ≤ r ∧ r ≤ 1114111 ∧ (r < 55296 ∨ 57343 < r) := by unfold U.isR; exact decide_eq_true_iff
theorem encode_rune {r : Int} (h : U.isR r = true) : Utf8.encode r = strOfNums (U.en r) := by
  have h' := isR_iff.1 h
  obtain ⟨n, rfl⟩ := Int.eq_ofNat_of_zero_le (show 0 ≤ r by omega)
  have hv : Utf8.valid (n : Int) = true := by
    unfold Utf8.valid
    simp
    omega
  unfold Utf8.encode U.en U.tl
  simp only [hv, if_true, Int.toNat_natCast]
  by_cases h1 : n < 128
  · rw [if_pos h1, if_pos (show (n : Int) < 128 by omega)]
    simp [strOfNums]
  rw [if_neg h1, if_neg (show ¬ (n : Int) < 128 by omega)]
  by_cases h2 : n < 2048
  · rw [if_pos h2, if_pos (show (n : Int) < 2048 by omega)]
    simp only [strOfNums, List.map_cons, List.map_nil]
    rw [show (192 + (n : Int) / 64).toNat = 192 + n / 64 by omega, show (128 + (n : Int) % 64).toNat = 128 + n % 64 by omega]
  rw [if_neg h2, if_neg (show ¬ (n : Int) < 2048 by omega)]
  by_cases h3 : n < 65536
  · rw [if_pos h3, if_pos (show (n : Int) < 65536 by omega)]
    simp only [strOfNums, List.map_cons, List.map_nil]
    rw [show (224 + (n : Int) / 4096).toNat = 224 + n / 4096 by omega, show (128 + (n : Int) / 64 % 64).toNat = 128 + n / 64 % 64 by omega, show (128 + (n : Int) % 64).toNat = 128 + n % 64 by omega]
  rw [if_neg h3, if_neg (show ¬ (n : Int) < 65536 by omega)]
  simp only [strOfNums, List.map_cons, List.map_nil]
  rw [show (240 + (n : Int) / 262144).toNat = 240 + n / 262144 by omega, show (128 + (n : Int) / 4096 % 64).toNat = 128 + n / 4096 % 64 by omega, show (128 + (n : Int) / 64 % 64).toNat = 128 + n / 64 % 64 by omega, show (128 + (n : Int) % 64).toNat = 128 + n % 64 by omega]
theorem runes_fold : ∀ (rs : List Int), (∀ r ∈ rs, U.isR r = true) → ∀ l : List Int, rs.foldl (fun s n => s ++ Utf8.encode n) (strOfNums l) = strOfNums (l ++ U.enc rs)
  | [], _, l => by simp [U.enc]
  | r :: rs, h, l => by
    rw [List.foldl_cons, encode_rune (h r (by simp)), str_app, runes_fold rs (fun x hx => h x (by simp [hx]))]
    have e : U.en1 r = U.en r := by simp [U.en1, h r (by simp)]
    simp [U.enc, e]
theorem runes_str {rs : List Int} (h : ∀ r ∈ rs, U.isR r = true) : runesBytes rs = strOfNums (U.enc rs) := by
  have := runes_fold rs h []
  unfold runesBytes
  exact this
/-- 'string(runes)' of a slice that reads as right runes -/
theorem conv_runes {w : World} {B n c : Nat} {A : Option Addr} {rs : List Int} (h : Seen w B A n (i32s rs)) (hr : ∀ r ∈ rs, U.isR r = true) : (convert 62 9 (.slice A n c)).run Tryd.prog w = .ok (.string (strOfNums (U.enc rs))) w := by
  have hl : rs.length = n := by simpa [i32s] using h.1
  rcases A with _ | ad
  · have : rs = [] := by
      rcases rs with _ | ⟨x, l⟩
      · rfl
      · obtain ⟨ad, h0, _⟩ := h.2 0 _ rfl
        cases h0
    subst this
    rw [run_convert_runes_nil w _ _ _ _ _ Tryd.underlying62 Tryd.underlying21 Tryd.underlying9]
    rfl
  · rw [run_convert_runes w _ _ _ ad n c rs (by omega) Tryd.underlying62 Tryd.underlying21 Tryd.underlying9 (fun j hj => by
      obtain ⟨ad', h1, _, h3⟩ := h.2 j (.int .i32 rs[j]) (by rw [i32s, List.getElem?_map, List.getElem?_eq_getElem hj]; rfl)
      injection h1 with h1
      subst h1
      rw [h3, List.getD_eq_getElem?_getD, List.getElem?_eq_getElem hj]
      rfl), List.take_of_length_le (by omega), runes_str hr]
/-! a range over such a string -/
theorem str_get {l : List Int} {i : Nat} {x : Int} (h : l[i]? = some x) : ((strOfNums l).get! i).toNat = x.toNat % 256 := by
  have hi : i < l.length := (List.getElem?_eq_some_iff.1 h).1
  have hx : l[i] = x := by rw [List.getElem?_eq_getElem hi] at h; exact Option.some.inj h
  have hs : i < (strOfNums l).data.size := by simpa [strOfNums] using hi
  show ((strOfNums l).data[i]!).toNat = _
  rw [getElem!_pos (strOfNums l).data i hs]
  simp [strOfNums, hx]
theorem en_pos (r : Int) : 1 ≤ (U.en r).length := by
  unfold U.en
  split; · simp
  split; · simp
  split <;> simp
set_option maxHeartbeats 1000000 in
theorem decode_en {pre post : List Int} {r : Int} (h : U.isR r = true) : Utf8.decode (strOfNums (pre ++ (U.en r ++ post))) pre.length = (r.toNat, (U.en r).length) := by
  have h' := isR_iff.1 h
  obtain ⟨n, rfl⟩ := Int.eq_ofNat_of_zero_le (show 0 ≤ r by omega)
  have at_ : ∀ k x, (U.en (n : Int))[k]? = some x → ((strOfNums (pre ++ (U.en (n : Int) ++ post))).get! (pre.length + k)).toNat = x.toNat % 256 := fun k x hk => by
    refine str_get ?_
    rw [List.getElem?_append_right (by omega), Nat.add_sub_cancel_left]
    have hk' : k < (U.en (n : Int)).length := (List.getElem?_eq_some_iff.1 hk).1
    rw [List.getElem?_append_left hk']
    exact hk
  have sz : (strOfNums (pre ++ (U.en (n : Int) ++ post))).size = pre.length + ((U.en (n : Int)).length + post.length) := by rw [str_size]; simp
  generalize hS : strOfNums (pre ++ (U.en (n : Int) ++ post)) = S at at_ sz ⊢
  clear hS
  unfold U.en U.tl at at_ sz ⊢
  have hv : Utf8.valid n = true := by
    unfold Utf8.valid
    simp
    omega
  by_cases h1 : n < 128
  · rw [if_pos (show (n : Int) < 128 by omega)] at at_ sz ⊢
    have a0 := at_ 0 _ rfl
    have e0 : (n : Int).toNat % 256 = n := by omega
    rw [e0] at a0
    simp only [Utf8.decode, a0, h1, if_true, Int.toNat_natCast, List.length_singleton]
  by_cases h2 : n < 2048
  · rw [if_neg (show ¬ (n : Int) < 128 by omega), if_pos (show (n : Int) < 2048 by omega)] at at_ sz ⊢
    have a0 := at_ 0 _ rfl
    have a1 := at_ 1 _ rfl
    have e0 : (192 + (n : Int) / 64).toNat % 256 = 192 + n / 64 := by omega
    have e1 : (128 + (n : Int) % 64).toNat % 256 = 128 + n % 64 := by omega
    rw [e0] at a0
    rw [e1] at a1
    simp only [List.length_cons, List.length_nil] at sz
    simp only [Utf8.decode, a0, a1, Int.toNat_natCast]
    have c1 : pre.length + 1 < S.size := by omega
    have q1 : (128 + n % 64) / 64 = 2 := by omega
    have q0 : (192 + n / 64) / 32 = 6 := by omega
    rw [if_neg (show ¬ 192 + n / 64 < 128 by omega)]
    simp only [c1, q1, q0]
    have hc : (192 + n / 64) % 32 * 64 + (128 + n % 64) % 64 = n := by omega
    rw [hc]
    have hn : n ≥ 128 := by omega
    simp [hn]
  by_cases h3 : n < 65536
  · rw [if_neg (show ¬ (n : Int) < 128 by omega), if_neg (show ¬ (n : Int) < 2048 by omega), if_pos (show (n : Int) < 65536 by omega)] at at_ sz ⊢
    have a0 := at_ 0 _ rfl
    have a1 := at_ 1 _ rfl
    have a2 := at_ 2 _ rfl
    have e0 : (224 + (n : Int) / 4096).toNat % 256 = 224 + n / 4096 := by omega
    have e1 : (128 + (n : Int) / 64 % 64).toNat % 256 = 128 + n / 64 % 64 := by omega
    have e2 : (128 + (n : Int) % 64).toNat % 256 = 128 + n % 64 := by omega
    rw [e0] at a0
    rw [e1] at a1
    rw [e2] at a2
    simp only [List.length_cons, List.length_nil] at sz
    simp only [Utf8.decode, a0, a1, a2, Int.toNat_natCast]
    have c1 : pre.length + 1 < S.size := by omega
    have c2 : pre.length + 2 < S.size := by omega
    have q1 : (128 + n / 64 % 64) / 64 = 2 := by omega
    have q2 : (128 + n % 64) / 64 = 2 := by omega
    have q0 : (224 + n / 4096) / 16 = 14 := by omega
    have q5 : (224 + n / 4096) / 32 = 7 := by omega
    rw [if_neg (show ¬ 224 + n / 4096 < 128 by omega)]
    simp only [c1, c2, q1, q2, q0, q5]
    have hc : (224 + n / 4096) % 16 * 4096 + (128 + n / 64 % 64) % 64 * 64 + (128 + n % 64) % 64 = n := by omega
    rw [hc]
    have hn : n ≥ 2048 := by omega
    simp [hn, hv]
  · rw [if_neg (show ¬ (n : Int) < 128 by omega), if_neg (show ¬ (n : Int) < 2048 by omega), if_neg (show ¬ (n : Int) < 65536 by omega)] at at_ sz ⊢
    have a0 := at_ 0 _ rfl
    have a1 := at_ 1 _ rfl
    have a2 := at_ 2 _ rfl
    have a3 := at_ 3 _ rfl
    have e0 : (240 + (n : Int) / 262144).toNat % 256 = 240 + n / 262144 := by omega
    have e1 : (128 + (n : Int) / 4096 % 64).toNat % 256 = 128 + n / 4096 % 64 := by omega
    have e2 : (128 + (n : Int) / 64 % 64).toNat % 256 = 128 + n / 64 % 64 := by omega
    have e3 : (128 + (n : Int) % 64).toNat % 256 = 128 + n % 64 := by omega
    rw [e0] at a0
    rw [e1] at a1
    rw [e2] at a2
    rw [e3] at a3
    simp only [List.length_cons, List.length_nil] at sz
    simp only [Utf8.decode, a0, a1, a2, a3, Int.toNat_natCast]
    have c1 : pre.length + 1 < S.size := by omega
    have c2 : pre.length + 2 < S.size := by omega
    have c3 : pre.length + 3 < S.size := by omega
    have q1 : (128 + n / 4096 % 64) / 64 = 2 := by omega
    have q2 : (128 + n / 64 % 64) / 64 = 2 := by omega
    have q3 : (128 + n % 64) / 64 = 2 := by omega
    have q0 : (240 + n / 262144) / 8 = 30 := by omega
    have q5 : (240 + n / 262144) / 32 = 7 := by omega
    have q4 : (240 + n / 262144) / 16 = 15 := by omega
    rw [if_neg (show ¬ 240 + n / 262144 < 128 by omega)]
    simp only [c1, c2, c3, q1, q2, q3, q0, q5, q4]
    have hc : (240 + n / 262144) % 8 * 262144 + (128 + n / 4096 % 64) % 64 * 4096 + (128 + n / 64 % 64) % 64 * 64 + (128 + n % 64) % 64 = n := by omega
    rw [hc]
    have hn : n ≥ 65536 := by omega
    simp [hn, hv]
end Go.Proofs.YtcbmjdacdjcggaaDoor
