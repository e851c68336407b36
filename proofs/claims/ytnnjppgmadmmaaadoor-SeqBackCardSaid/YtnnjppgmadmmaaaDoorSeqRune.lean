/- 'string(runes)' is their UTF-8. Names no function of a program but the types. -/
import Derived.Test.YtnnjppgmadmmaaaDoorStrConv
import Derived.Test.YtnnjppgmadmmaaaDoorSeqSpec
import Derived.Laws.Cover4
set_option maxRecDepth 100000
namespace Go.Proofs.YtnnjppgmadmmaaaDoor
open Go.RowKit
theorem okRune_isR {r : Int} (h : PA.okRune r) : U.isR r = true := by
  unfold U.isR
  unfold PA.okRune at h
  simp
  omega
theorem encode_rune {r : Int} (h : PA.okRune r) : Utf8.encode r = strOfNums (U.en r) := by
  have h' := h
  unfold PA.okRune at h'
  obtain ⟨n, rfl⟩ := Int.eq_ofNat_of_zero_le (show 0 ≤ r by omega)
  have hv : Utf8.valid (n : Int) = true := by
    unfold Utf8.valid
    simp
    omega
  unfold Utf8.encode U.en U.tl
  simp only [hv, if_true, Int.toNat_natCast]
  by_cases h1 : n < 128
  · rw [if_pos h1, if_pos (show (n : Int) < 128 by omega)]
    simp [strOfNums]
  rw [if_neg h1, if_neg (show ¬ (n : Int) < 128 by omega)]
  by_cases h2 : n < 2048
  · rw [if_pos h2, if_pos (show (n : Int) < 2048 by omega)]
    simp only [strOfNums, List.map_cons, List.map_nil]
    rw [show (192 + (n : Int) / 64).toNat = 192 + n / 64 by omega, show (128 + (n : Int) % 64).toNat = 128 + n % 64 by omega]
  rw [if_neg h2, if_neg (show ¬ (n : Int) < 2048 by omega)]
  by_cases h3 : n < 65536
  · rw [if_pos h3, if_pos (show (n : Int) < 65536 by omega)]
    simp only [strOfNums, List.map_cons, List.map_nil]
    rw [show (224 + (n : Int) / 4096).toNat = 224 + n / 4096 by omega, show (128 + (n : Int) / 64 % 64).toNat = 128 + n / 64 % 64 by omega, show (128 + (n : Int) % 64).toNat = 128 + n % 64 by omega]
  rw [if_neg h3, if_neg (show ¬ (n : Int) < 65536 by omega)]
  simp only [strOfNums, List.map_cons, List.map_nil]
  rw [show (240 + (n : Int) / 262144).toNat = 240 + n / 262144 by omega, show (128 + (n : Int) / 4096 % 64).toNat = 128 + n / 4096 % 64 by omega, show (128 + (n : Int) / 64 % 64).toNat = 128 + n / 64 % 64 by omega, show (128 + (n : Int) % 64).toNat = 128 + n % 64 by omega]
theorem runes_fold : ∀ (rs : List Int), (∀ r ∈ rs, PA.okRune r) → ∀ l : List Int, rs.foldl (fun s n => s ++ Utf8.encode n) (strOfNums l) = strOfNums (l ++ U.enc rs)
  | [], _, l => by simp [U.enc]
  | r :: rs, h, l => by
    rw [List.foldl_cons, encode_rune (h r (by simp)), str_app, runes_fold rs (fun x hx => h x (by simp [hx]))]
    have e : U.en1 r = U.en r := by simp [U.en1, okRune_isR (h r (by simp))]
    simp [U.enc, e]
theorem runes_str {rs : List Int} (h : ∀ r ∈ rs, PA.okRune r) : runesBytes rs = strOfNums (U.enc rs) := by
  have := runes_fold rs h []
  unfold runesBytes
  exact this
/-- 'string(runes)' of a slice that reads as right runes -/
theorem conv_runes {w : World} {B n c : Nat} {A : Option Addr} {rs : List Int} (h : Seen w B A n (i32s rs)) (hr : ∀ r ∈ rs, PA.okRune r) : (convert 49 9 (.slice A n c)).run Tryd.prog w = .ok (.string (strOfNums (U.enc rs))) w := by
  have hl : rs.length = n := by simpa [i32s] using h.1
  rcases A with _ | ad
  · have : rs = [] := by
      rcases rs with _ | ⟨x, l⟩
      · rfl
      · obtain ⟨ad, h0, _⟩ := h.2 0 _ rfl
        cases h0
    subst this
    rw [run_convert_runes_nil w _ _ _ _ _ Tryd.underlying49 Tryd.underlying21 Tryd.underlying9]
    rfl
  · rw [run_convert_runes w _ _ _ ad n c rs (by omega) Tryd.underlying49 Tryd.underlying21 Tryd.underlying9 (fun j hj => by
      obtain ⟨ad', h1, _, h3⟩ := h.2 j (.int .i32 rs[j]) (by rw [i32s, List.getElem?_map, List.getElem?_eq_getElem hj]; rfl)
      injection h1 with h1
      subst h1
      rw [h3, List.getD_eq_getElem?_getD, List.getElem?_eq_getElem hj]
      rfl), List.take_of_length_le (by omega), runes_str hr]
/-- what is printed of runes that are right is their UTF-8 -/
theorem bytesAll_runes : ∀ (rs : List Int), (∀ r ∈ rs, PA.okRune r) → PA.bytesAll (rs.map PA.pr) = U.enc rs
  | [], _ => rfl
  | r :: rs, h => by
    have ih := bytesAll_runes rs (fun x hx => h x (by simp [hx]))
    have e : U.en1 r = U.en r := by simp [U.en1, okRune_isR (h r (by simp))]
    show PA.bytesOf (PA.pr r) ++ PA.bytesAll (rs.map PA.pr) = U.enc (r :: rs)
    rw [ih]
    show U.en r ++ U.enc rs = U.en1 r ++ U.enc rs
    rw [e]
end Go.Proofs.YtnnjppgmadmmaaaDoor
