/- Plain laws: Go's bit arithmetic on bytes and on numbers of 64 bits, as this layer uses it. No condition. -/
import Derived.WalkKit
import Derived.Laws.BitsLemmas
import Derived.Laws.Bits64
import Derived.Laws.Shifts
namespace Go.Proofs.Ytgaphplndpdhaaa
theorem wraps_u64 (n : Int) (h₀ : 0 ≤ n) (h₁ : n < 2 ^ 64) : IntKind.u64.wrap n = n := by rw [IntKind.wrap_u64]; omega
theorem wraps_i64 (n : Int) (h₀ : -9223372036854775808 ≤ n) (h₁ : n < 9223372036854775808) : IntKind.i64.wrap n = n := by rw [IntKind.wrap_i64]; omega
theorem or128 : ∀ n : Nat, n < 256 → n ||| 128 = n % 128 + 128 := by decide +kernel
theorem and128 : ∀ n : Nat, n < 256 → n &&& 128 = n / 128 * 128 := by decide +kernel
theorem and127 : ∀ n : Nat, n < 256 → n &&& 127 = n % 128 := by decide +kernel
theorem u8_or128' (n : Nat) (h : n < 256) : bits .or .u8 (n : Int) 128 = ((n % 128 + 128 : Nat) : Int) := by
  have := (bits_nat .u8 8 (by decide) wraps_u8 n 128 (by omega) (by omega)).2
  rw [or128 n h] at this
  exact this
theorem u8_and128 (n : Nat) (h : n < 256) : bits .and .u8 (n : Int) 128 = ((n / 128 * 128 : Nat) : Int) := by
  have := (bits_nat .u8 8 (by decide) wraps_u8 n 128 (by omega) (by omega)).1
  rw [and128 n h] at this
  exact this
theorem u8_and127 (n : Nat) (h : n < 256) : bits .and .u8 (n : Int) 127 = ((n % 128 : Nat) : Int) := by
  have := (bits_nat .u8 8 (by decide) wraps_u8 n 127 (by omega) (by omega)).1
  rw [and127 n h] at this
  exact this
theorem andNot128 : ∀ n : Nat, n < 256 → bits .andNot .u8 (n : Int) 128 = ((n % 128 : Nat) : Int) := by decide +kernel
theorem shl7 (d i : Nat) (yk : IntKind) (y : Int) (hy : y = ((7 * i : Nat) : Int)) (hi : i ≤ 9) (hd : d * 128 ^ i < 18446744073709551616) : Op.shift .shl .u64 (d : Int) yk y = pure (.int .u64 ((d * 128 ^ i : Nat) : Int)) := by
  subst hy
  have e : min ((7 * i : Nat) : Int).toNat IntKind.u64.bits = 7 * i := by show min _ 64 = 7 * i; omega
  have h2 : (d : Int) * 2 ^ (7 * i) = ((d * 128 ^ i : Nat) : Int) := by rw [show (128 : Nat) ^ i = 2 ^ (7 * i) by rw [Nat.pow_mul]]; simp
  rw [shift_shl_any _ _ _ _ (by omega), e, h2, wraps_u64 _ (by omega) (by omega)]
theorem shl7w (d i : Nat) (hd : d * 128 ^ i < 18446744073709551616) : IntKind.u64.wrap ((d : Int) * 2 ^ (7 * i)) = ((d * 128 ^ i : Nat) : Int) := by
  have h2 : (d : Int) * 2 ^ (7 * i) = ((d * 128 ^ i : Nat) : Int) := by rw [show (128 : Nat) ^ i = 2 ^ (7 * i) by rw [Nat.pow_mul]]; simp
  rw [h2, wraps_u64 _ (by omega) (by omega)]
theorem u64_join (i a d : Nat) (ha : a < 128 ^ i) (hd : a + d * 128 ^ i < 18446744073709551616) : bits .or .u64 (a : Int) ((d * 128 ^ i : Nat) : Int) = ((a + d * 128 ^ i : Nat) : Int) := by
  have hp : (128 : Nat) ^ i = 2 ^ (7 * i) := by rw [Nat.pow_mul]
  have h1 := (bits_nat .u64 64 (by decide) wraps_u64 a (d * 128 ^ i) (by omega) (by omega)).2
  rw [h1, hp, Nat.or_comm, Nat.mul_comm d, ← Nat.two_pow_add_eq_or_of_lt (by rw [← hp]; exact ha), Nat.add_comm]
theorem u64_and1 (n : Nat) (h : n < 18446744073709551616) : bits .and .u64 (n : Int) 1 = ((n % 2 : Nat) : Int) := by
  have := (bits_nat .u64 64 (by decide) wraps_u64 n 1 (by omega) (by omega)).1
  rw [Nat.and_one_is_mod] at this
  exact this
theorem u64_or1 (n : Nat) (h : n < 18446744073709551616) : bits .or .u64 (n : Int) 1 = ((n / 2 * 2 + 1 : Nat) : Int) := by
  have h1 := (bits_nat .u64 64 (by decide) wraps_u64 n 1 (by omega) (by omega)).2
  have h2 : n ||| 1 = n / 2 * 2 + 1 := by
    apply Nat.eq_of_testBit_eq
    intro i
    rcases i with _ | i
    · simp [Nat.testBit_zero]
    · rw [Nat.testBit_or, Nat.testBit_succ, Nat.testBit_succ, Nat.testBit_succ]
      have e1 : (n / 2 * 2 + 1) / 2 = n / 2 := by omega
      rw [e1]; simp
  rw [h2] at h1
  exact h1
theorem u64_xor0 (n : Nat) (h : n < 18446744073709551616) : bits .xor .u64 (n : Int) 0 = (n : Int) := by
  have := bits_xor_u64_nat n 0 h (by omega)
  rw [Nat.xor_zero] at this
  exact this
theorem u64_xorAll (n : Nat) (h : n < 18446744073709551616) : bits .xor .u64 (n : Int) 18446744073709551615 = ((18446744073709551615 - n : Nat) : Int) := by
  have h1 := bits_xor_u64_nat n 18446744073709551615 h (by omega)
  have h2 : n ^^^ 18446744073709551615 = 18446744073709551615 - n := by
    have e := BitVec.toNat_not (x := BitVec.ofNat 64 n)
    rw [← BitVec.xor_allOnes, BitVec.toNat_xor, BitVec.toNat_ofNat, Nat.mod_eq_of_lt h] at e
    exact e
  rw [h2] at h1
  exact h1
end Go.Proofs.Ytgaphplndpdhaaa
