/- Bits of an int under a small mask. Plain: no program, no condition. -/
import Derived.Test.YtpopbdladlahjaaRows
import Derived.WalkKit
import Derived.IntWalk
namespace Go.Proofs.Ytpopbdladlahjaa
open Go Go.RowKit

/-- Is a number within two others? -/
def inZ (a n b : Int) : Bool := decide (a ≤ n) && decide (n ≤ b)
theorem and_small (n k m : Nat) (hk : k < 2 ^ m) : n &&& k = (n % 2 ^ m) &&& k := by
  have h1 : n &&& k < 2 ^ m := Nat.lt_of_le_of_lt Nat.and_le_right hk
  have h2 : (n &&& k) % 2 ^ m = (n % 2 ^ m) &&& (k % 2 ^ m) := Nat.and_mod_two_pow
  rw [Nat.mod_eq_of_lt h1, Nat.mod_eq_of_lt hk] at h2
  exact h2
theorem ofInt_mod (w : Int) : (BitVec.ofInt 64 w).toNat = (w % 18446744073709551616).toNat := by
  rw [BitVec.toNat_ofInt]
  rfl
/-- A small mask laid over an int. -/
theorem bits_and {w : Int} {k m : Nat} (hk : k < 2 ^ m) (hm : m ≤ 32) : bits .and .i64 w (k : Int) = (((w % (2 ^ m : Nat)).toNat &&& k : Nat) : Int) := by
  have hk2 : k < 2 ^ 32 := Nat.lt_of_lt_of_le hk (Nat.pow_le_pow_right (by decide) hm)
  show IntKind.i64.wrap ((BitVec.ofInt 64 w &&& BitVec.ofInt 64 (k : Int)).toNat : Int) = _
  have e1 : (BitVec.ofInt 64 (k : Int)).toNat = k := by
    rw [BitVec.toNat_ofInt]
    omega
  rw [BitVec.toNat_and, e1, ofInt_mod, and_small _ k m hk]
  have h3 : (w % 18446744073709551616).toNat % 2 ^ m = (w % (2 ^ m : Nat)).toNat := by
    obtain ⟨d, hd⟩ : 2 ^ m ∣ (18446744073709551616 : Nat) := by
      rw [show (18446744073709551616 : Nat) = 2 ^ 64 from rfl]
      exact Nat.pow_dvd_pow _ (by omega)
    have hp : 0 < 2 ^ m := Nat.two_pow_pos m
    generalize 2 ^ m = M at *
    have h4 : (w % 18446744073709551616) % (M : Int) = w % (M : Int) := by
      apply Int.emod_emod_of_dvd
      exact ⟨(d : Int), by rw [show (18446744073709551616 : Int) = ((18446744073709551616 : Nat) : Int) from rfl, hd]; exact Int.natCast_mul M d⟩
    have h5 : 0 ≤ w % 18446744073709551616 := Int.emod_nonneg _ (by decide)
    rw [← h4]
    generalize w % 18446744073709551616 = x at *
    obtain ⟨n, rfl⟩ := Int.eq_ofNat_of_zero_le h5
    rw [Int.toNat_natCast, ← Int.natCast_emod, Int.toNat_natCast]
  rw [h3]
  have h6 : (w % (2 ^ m : Nat)).toNat &&& k < 2 ^ 32 := Nat.lt_of_le_of_lt Nat.and_le_right hk2
  rw [IntKind.wrap_i64]
  generalize (w % (2 ^ m : Nat)).toNat &&& k = y at *
  omega
theorem bv_high (x : BitVec 64) (m : Nat) : x &&& ~~~(BitVec.ofNat 64 (2 ^ m - 1)) = (x >>> m) <<< m := by
  apply BitVec.eq_of_getLsbD_eq
  intro i hi
  rw [BitVec.getLsbD_and, BitVec.getLsbD_not, BitVec.getLsbD_shiftLeft, BitVec.getLsbD_ushiftRight, BitVec.getLsbD_ofNat, Nat.testBit_two_pow_sub_one]
  by_cases h : i < m
  · simp [hi, h]
  · simp [hi, h, show m + (i - m) = i by omega]
/-- What is left above a low mask is nothing, just if the number is below it. -/
theorem bits_high {w : Int} {m : Nat} (hm : m ≤ 32) (h0 : -9223372036854775808 ≤ w) (h1 : w ≤ 9223372036854775807) : bits .andNot .i64 w (((2 ^ m - 1 : Nat)) : Int) = 0 ↔ 0 ≤ w ∧ w < (2 ^ m : Nat) := by
  show IntKind.i64.wrap ((BitVec.ofInt 64 w &&& ~~~(BitVec.ofInt 64 ((2 ^ m - 1 : Nat) : Int))).toNat : Int) = 0 ↔ _
  rw [BitVec.ofInt_natCast, bv_high, BitVec.toNat_shiftLeft, BitVec.toNat_ushiftRight, ofInt_mod, Nat.shiftRight_eq_div_pow, Nat.shiftLeft_eq]
  have hM : 2 ^ m ≤ 2 ^ 32 := Nat.pow_le_pow_right (by decide) hm
  have hp : 0 < 2 ^ m := Nat.two_pow_pos m
  generalize 2 ^ m = M at *
  rw [show (2 : Nat) ^ 32 = 4294967296 from rfl] at hM
  rw [show (2 : Nat) ^ 64 = 18446744073709551616 from rfl]
  have h2 : (w % 18446744073709551616).toNat < 18446744073709551616 := by omega
  have h3 : (w % 18446744073709551616).toNat < M ↔ 0 ≤ w ∧ w < (M : Int) := by omega
  rw [← h3]
  generalize (w % 18446744073709551616).toNat = n at *
  have h4 := Nat.div_mul_le_self n M
  rw [Nat.mod_eq_of_lt (by omega), ← Nat.div_eq_zero_iff_lt hp]
  constructor
  · intro h
    have h5 : n / M * M = 0 := by
      rw [IntKind.wrap_i64] at h
      omega
    rcases Nat.mul_eq_zero.1 h5 with h | h
    · exact h
    · omega
  · intro h
    rw [h, Nat.zero_mul]
    decide
end Go.Proofs.Ytpopbdladlahjaa
