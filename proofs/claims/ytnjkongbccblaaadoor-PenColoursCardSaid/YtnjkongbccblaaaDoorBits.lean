/- Go's '&', '|' on int, int32, uint8 as arithmetic: masks, and joins of parts that don't overlap. -/
import Derived.WalkKit
import Derived.Laws.BitsAllLaws
namespace Go.Proofs.YtnjkongbccblaaaDoor
theorem nat_and_mask (x i : Nat) : x &&& (2 ^ i - 1) = x % 2 ^ i := Nat.and_two_pow_sub_one_eq_mod x i
theorem emod_pow_toNat (x : Int) (i n : Nat) (h : i ≤ n) : (((x % ((2 ^ n : Nat) : Int)).toNat % 2 ^ i : Nat) : Int) = x % ((2 ^ i : Nat) : Int) := by
  have hp : 0 < 2 ^ n := Nat.two_pow_pos n
  have h0 : 0 ≤ x % ((2 ^ n : Nat) : Int) := Int.emod_nonneg _ (by omega)
  rw [Int.natCast_emod, Int.toNat_of_nonneg h0]
  exact Int.emod_emod_of_dvd x (Int.natCast_dvd_natCast.2 (Nat.pow_dvd_pow 2 h))
/-- x & (2^i - 1), whatever the sign of x. -/
theorem i64_mask (i : Nat) (hi : i ≤ 62) (x : Int) : bits .and .i64 x ((2 ^ i - 1 : Nat) : Int) = x % ((2 ^ i : Nat) : Int) := by
  have hp : 2 ^ i ≤ 2 ^ 62 := Nat.pow_le_pow_right (by omega) hi
  have hq : 0 < 2 ^ i := Nat.two_pow_pos i
  show IntKind.i64.wrap ((BitVec.ofInt 64 x &&& BitVec.ofInt 64 ((2 ^ i - 1 : Nat) : Int)).toNat : Int) = _
  rw [BitVec.toNat_and, BitVec.toNat_ofInt, BitVec.ofInt_natCast, BitVec.toNat_ofNat, Nat.mod_eq_of_lt (a := 2 ^ i - 1) (by omega), nat_and_mask, emod_pow_toNat x i 64 (by omega), IntKind.wrap_i64]
  have h1 := Int.emod_nonneg x (b := ((2 ^ i : Nat) : Int)) (by omega)
  have h2 := Int.emod_lt_of_pos x (b := ((2 ^ i : Nat) : Int)) (by omega)
  omega
theorem i32_mask (i : Nat) (hi : i ≤ 30) (x : Int) : bits .and .i32 x ((2 ^ i - 1 : Nat) : Int) = x % ((2 ^ i : Nat) : Int) := by
  have hp : 2 ^ i ≤ 2 ^ 30 := Nat.pow_le_pow_right (by omega) hi
  have hq : 0 < 2 ^ i := Nat.two_pow_pos i
  show IntKind.i32.wrap ((BitVec.ofInt 32 x &&& BitVec.ofInt 32 ((2 ^ i - 1 : Nat) : Int)).toNat : Int) = _
  rw [BitVec.toNat_and, BitVec.toNat_ofInt, BitVec.ofInt_natCast, BitVec.toNat_ofNat, Nat.mod_eq_of_lt (a := 2 ^ i - 1) (by omega), nat_and_mask, emod_pow_toNat x i 32 (by omega), IntKind.wrap_i32]
  have h1 := Int.emod_nonneg x (b := ((2 ^ i : Nat) : Int)) (by omega)
  have h2 := Int.emod_lt_of_pos x (b := ((2 ^ i : Nat) : Int)) (by omega)
  omega
theorem u8_mask (i : Nat) (hi : i ≤ 8) (x : Int) (h0 : 0 ≤ x) (h1 : x < 256) : bits .and .u8 x ((2 ^ i - 1 : Nat) : Int) = x % ((2 ^ i : Nat) : Int) := by
  have hp : 2 ^ i ≤ 2 ^ 8 := Nat.pow_le_pow_right (by omega) hi
  have hq : 0 < 2 ^ i := Nat.two_pow_pos i
  obtain ⟨n, rfl⟩ := Int.eq_ofNat_of_zero_le h0
  rw [u8_and_nat n _ (by omega) (by omega), nat_and_mask, Int.natCast_emod]
/-- a | b, where a's low i bits are nought and b has no others. -/
theorem i64_join (i : Nat) (a b : Int) (ha : 0 ≤ a) (hm : a % ((2 ^ i : Nat) : Int) = 0) (hb : 0 ≤ b) (hb1 : b < ((2 ^ i : Nat) : Int)) (h : a + b < 9223372036854775808) : bits .or .i64 a b = a + b := by
  obtain ⟨x, rfl⟩ := Int.eq_ofNat_of_zero_le ha
  obtain ⟨y, rfl⟩ := Int.eq_ofNat_of_zero_le hb
  show IntKind.i64.wrap ((BitVec.ofInt 64 (x : Int) ||| BitVec.ofInt 64 (y : Int)).toNat : Int) = _
  rw [BitVec.toNat_or, BitVec.ofInt_natCast, BitVec.ofInt_natCast, BitVec.toNat_ofNat, BitVec.toNat_ofNat, Nat.mod_eq_of_lt (a := x) (by omega), Nat.mod_eq_of_lt (a := y) (by omega),
    nat_join i x y (by rw [← Int.natCast_emod] at hm; exact_mod_cast hm) (by omega), IntKind.wrap_i64]
  omega
theorem u8_join (i : Nat) (a b : Int) (ha : 0 ≤ a) (hm : a % ((2 ^ i : Nat) : Int) = 0) (hb : 0 ≤ b) (hb1 : b < ((2 ^ i : Nat) : Int)) (h : a + b < 256) : bits .or .u8 a b = a + b := by
  obtain ⟨x, rfl⟩ := Int.eq_ofNat_of_zero_le ha
  obtain ⟨y, rfl⟩ := Int.eq_ofNat_of_zero_le hb
  rw [u8_or_nat x y (by omega) (by omega), nat_join i x y (by rw [← Int.natCast_emod] at hm; exact_mod_cast hm) (by omega)]
  omega
theorem u64_mask (i : Nat) (hi : i ≤ 64) (x : Int) (h0 : 0 ≤ x) (h1 : x < 18446744073709551616) : bits .and .u64 x ((2 ^ i - 1 : Nat) : Int) = x % ((2 ^ i : Nat) : Int) := by
  have hp : 2 ^ i ≤ 2 ^ 64 := Nat.pow_le_pow_right (by omega) hi
  have hq : 0 < 2 ^ i := Nat.two_pow_pos i
  obtain ⟨n, rfl⟩ := Int.eq_ofNat_of_zero_le h0
  show IntKind.u64.wrap ((BitVec.ofInt 64 (n : Int) &&& BitVec.ofInt 64 ((2 ^ i - 1 : Nat) : Int)).toNat : Int) = _
  rw [BitVec.toNat_and, BitVec.ofInt_natCast, BitVec.ofInt_natCast, BitVec.toNat_ofNat, BitVec.toNat_ofNat, Nat.mod_eq_of_lt (a := n) (by omega), Nat.mod_eq_of_lt (a := 2 ^ i - 1) (by omega), nat_and_mask, IntKind.wrap_u64, Int.natCast_emod]
  have h1 := Int.emod_nonneg (n : Int) (b := ((2 ^ i : Nat) : Int)) (by omega)
  have h2 := Int.emod_lt_of_pos (n : Int) (b := ((2 ^ i : Nat) : Int)) (by omega)
  omega
/-- a | b, where b's low i bits are nought and a has no others. -/
theorem u64_join (i : Nat) (a b : Int) (hb : 0 ≤ b) (hm : b % ((2 ^ i : Nat) : Int) = 0) (ha : 0 ≤ a) (ha1 : a < ((2 ^ i : Nat) : Int)) (h : a + b < 18446744073709551616) : bits .or .u64 a b = a + b := by
  obtain ⟨x, rfl⟩ := Int.eq_ofNat_of_zero_le ha
  obtain ⟨y, rfl⟩ := Int.eq_ofNat_of_zero_le hb
  show IntKind.u64.wrap ((BitVec.ofInt 64 (x : Int) ||| BitVec.ofInt 64 (y : Int)).toNat : Int) = _
  rw [BitVec.toNat_or, BitVec.ofInt_natCast, BitVec.ofInt_natCast, BitVec.toNat_ofNat, BitVec.toNat_ofNat, Nat.mod_eq_of_lt (a := x) (by omega), Nat.mod_eq_of_lt (a := y) (by omega), Nat.or_comm,
    nat_join i y x (by rw [← Int.natCast_emod] at hm; exact_mod_cast hm) (by omega), IntKind.wrap_u64]
  omega
/-- a flag that is there stays; one bit of a small number -/
theorem i64_or_nat (x y : Nat) (hx : x < 9223372036854775808) (hy : y < 9223372036854775808) : bits .or .i64 (x : Int) (y : Int) = ((x ||| y : Nat) : Int) := by
  show IntKind.i64.wrap ((BitVec.ofInt 64 (x : Int) ||| BitVec.ofInt 64 (y : Int)).toNat : Int) = _
  rw [BitVec.toNat_or, BitVec.ofInt_natCast, BitVec.ofInt_natCast, BitVec.toNat_ofNat, BitVec.toNat_ofNat, Nat.mod_eq_of_lt (a := x) (by omega), Nat.mod_eq_of_lt (a := y) (by omega), IntKind.wrap_i64]
  have : x ||| y < 2 ^ 63 := Nat.or_lt_two_pow (by omega) (by omega)
  omega
end Go.Proofs.YtnjkongbccblaaaDoor
