/- One bit of a number turned, or put. Plain: no program, no condition. -/
import Derived.Test.YtideooaefplbhaaDoorRows
import Derived.WalkKit
import Derived.IntWalk
namespace Go.Proofs.YtideooaefplbhaaDoor
open Go Go.RowKit

/-- The number with its lowest bit turned. -/
def flipW (w : Int) : Int := if w % 2 = 0 then w + 1 else w - 1
theorem xor_one_nat (n : Nat) : n ^^^ 1 = if n % 2 = 0 then n + 1 else n - 1 := by
  have h1 : (n ^^^ 1) / 2 = n / 2 := by
    apply Nat.eq_of_testBit_eq
    intro i
    rw [Nat.testBit_div_two, Nat.testBit_div_two, Nat.testBit_xor]
    have : Nat.testBit 1 (i + 1) = false := by
      rw [Nat.testBit_succ]; simp
    rw [this]; simp
  have h2 : (n ^^^ 1) % 2 = (n + 1) % 2 := by
    have h : Nat.testBit (n ^^^ 1) 0 = (Nat.testBit n 0 != Nat.testBit 1 0) := Nat.testBit_xor ..
    rw [Nat.testBit_zero, Nat.testBit_zero, Nat.testBit_zero] at h
    by_cases e : n % 2 = 1
    · rw [decide_eq_true e] at h
      have : ¬ (n ^^^ 1) % 2 = 1 := by simpa using h
      omega
    · rw [decide_eq_false e] at h
      have : (n ^^^ 1) % 2 = 1 := by simpa using h
      omega
  split <;> omega
theorem bits_flip {w : Int} (h0 : -9223372036854775808 ≤ w) (h1 : w ≤ 9223372036854775807) : bits .xor .i64 w 1 = flipW w := by
  show IntKind.i64.wrap ((BitVec.ofInt 64 w ^^^ BitVec.ofInt 64 1).toNat : Int) = _
  have e1 : (BitVec.ofInt 64 (1 : Int)).toNat = 1 := by decide
  have e2 : ((BitVec.ofInt 64 w).toNat : Int) = w % 18446744073709551616 := by
    rw [BitVec.toNat_ofInt]
    omega
  rw [BitVec.toNat_xor, e1, xor_one_nat, IntKind.wrap_i64]
  unfold flipW
  generalize (BitVec.ofInt 64 w).toNat = m at *
  by_cases h : m % 2 = 0
  · rw [if_pos h, if_pos (by omega)]; omega
  · rw [if_neg h, if_neg (by omega)]; omega
theorem flip_same (f : Int) : flipW f / 2 = f / 2 ∧ (0 ≤ f → 0 ≤ flipW f) ∧ (f ≤ 9223372036854775807 → flipW f ≤ 9223372036854775807) := by
  unfold flipW
  split <;> omega
theorem bits_or {f : Int} {k : Nat} (h0 : 0 ≤ f) (h1 : f ≤ 9223372036854775807) (hk : k < 9223372036854775808) : bits .or .i64 f (k : Int) = (((f.toNat ||| k : Nat)) : Int) := by
  show IntKind.i64.wrap ((BitVec.ofInt 64 f ||| BitVec.ofInt 64 (k : Int)).toNat : Int) = _
  have e1 : (BitVec.ofInt 64 (k : Int)).toNat = k := by
    rw [BitVec.toNat_ofInt]
    omega
  have e2 : (BitVec.ofInt 64 f).toNat = f.toNat := by
    rw [BitVec.toNat_ofInt]
    omega
  rw [BitVec.toNat_or, e1, e2]
  have h : f.toNat ||| k < 2 ^ 63 := Nat.or_lt_two_pow (by omega) (by omega)
  rw [IntKind.wrap_i64]
  omega
theorem or_part (n k i m : Nat) (h : ∀ j, j < m → Nat.testBit k (i + j) = false) : (n ||| k) / 2 ^ i % 2 ^ m = n / 2 ^ i % 2 ^ m := by
  apply Nat.eq_of_testBit_eq
  intro j
  rw [Nat.testBit_mod_two_pow, Nat.testBit_mod_two_pow, Nat.testBit_div_two_pow, Nat.testBit_div_two_pow, Nat.testBit_or]
  by_cases hj : j < m
  · rw [show j + i = i + j by omega, h j hj]
    simp
  · simp [hj]
theorem or8_part (n : Nat) : (n ||| 8) / 2 % 4 = n / 2 % 4 := by
  have := or_part n 8 1 2 (fun j hj => by
    match j, hj with
    | 0, _ => decide
    | 1, _ => decide)
  simpa using this
end Go.Proofs.YtideooaefplbhaaDoor
