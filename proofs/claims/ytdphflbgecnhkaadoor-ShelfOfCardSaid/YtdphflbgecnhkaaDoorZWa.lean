/- Plain arithmetic for layer 1: a number of 128 bits as its two words, bit by bit sums and differences. No condition. -/
/- The contracts of layer 1's small functions. No condition but the words' sizes. -/
import Derived.Test.YtdphflbgecnhkaaDoorRows
import Derived.Laws.Bits64
import Derived.RowKit
import Derived.WalkKit
import Derived.Laws.Bits64b
import Derived.WalkSpells
import Derived.WalkLawsBesides
import Derived.Lib.QuietBelow
import Derived.Lib.Hide
import Derived.BigQuiet
import Derived.Laws.Externs
import Derived.Shelf.Spec.BitsCarry
namespace Go.Proofs.YtdphflbgecnhkaaDoor.Wm
open Go Go.RowKit

/-- The two words of a number below 2^128. -/
def hiN (n : Nat) : Nat := n / 18446744073709551616
def loN (n : Nat) : Nat := n % 18446744073709551616
def num (h l : Nat) : Nat := h * 18446744073709551616 + l
/-- What a 128-bit number is as a value. -/
abbrev numV (n : Nat) : Value := .agg #[.int .u64 ((hiN n : Nat) : Int), .int .u64 ((loN n : Nat) : Int)]
def big : Nat := 340282366920938463463374607431768211456

theorem big_eq : big = 340282366920938463463374607431768211456 := rfl
theorem hiN_lt {n : Nat} (h : n < big) : hiN n < 18446744073709551616 := by unfold hiN; rw [big_eq] at h; omega
theorem loN_lt (n : Nat) : loN n < 18446744073709551616 := by unfold loN; omega
theorem num_hi_lo (n : Nat) : num (hiN n) (loN n) = n := by unfold num hiN loN; omega
theorem hiN_num {h l : Nat} (hl : l < 18446744073709551616) : hiN (num h l) = h := by unfold hiN num; omega
theorem loN_num {h l : Nat} (hl : l < 18446744073709551616) : loN (num h l) = l := by unfold loN num; omega
theorem num_lt {h l : Nat} (hh : h < 18446744073709551616) (hl : l < 18446744073709551616) : num h l < big := by unfold num; rw [big_eq]; omega
theorem num_inj {a b : Nat} (h1 : hiN a = hiN b) (h2 : loN a = loN b) : a = b := by
  rw [← num_hi_lo a, ← num_hi_lo b, h1, h2]

theorem two_pow_split (i : Nat) (h : 64 ≤ i) : 2 ^ i = 18446744073709551616 * 2 ^ (i - 64) := by
  have : i = 64 + (i - 64) := by omega
  rw [this, Nat.pow_add]
  simp
theorem two_pow_split' (i : Nat) (h : i < 64) : 18446744073709551616 = 2 ^ i * (2 ^ (63 - i) * 2) := by
  have e : (2 : Nat) ^ 64 = 2 ^ i * 2 ^ (63 - i) * 2 := by
    rw [← Nat.pow_add, ← Nat.pow_succ]; congr 1; omega
  rw [← Nat.mul_assoc, ← e]

/-- Bit i of a number. -/
def bitN (n i : Nat) : Nat := n / 2 ^ i % 2
theorem bitN_lt (n i : Nat) : bitN n i < 2 := by unfold bitN; omega
theorem bitN_hi (n i : Nat) (h : 64 ≤ i) : hiN n / 2 ^ (i - 64) % 2 = bitN n i := by
  unfold bitN hiN
  rw [two_pow_split i h, Nat.div_div_eq_div_mul]
theorem bitN_lo (n i : Nat) (h : i < 64) : loN n / 2 ^ i % 2 = bitN n i := by
  have e := two_pow_split' i h
  have hp : 0 < 2 ^ i := Nat.two_pow_pos i
  have hn : n = loN n + 2 ^ i * (2 ^ (63 - i) * 2 * hiN n) := by
    have h1 : n = loN n + 18446744073709551616 * hiN n := by unfold loN hiN; omega
    rw [← Nat.mul_assoc, ← e]; exact h1
  unfold bitN
  conv => rhs; rw [hn, Nat.add_mul_div_left _ _ hp]
  have : 2 ^ (63 - i) * 2 * hiN n = 2 * (2 ^ (63 - i) * hiN n) := by
    rw [Nat.mul_comm (2 ^ (63 - i)) 2, Nat.mul_assoc]
  rw [this]
  omega

theorem wrap64_small (n : Nat) (h : n < 9223372036854775808) : wrap64 (n : Int) = (n : Int) := by unfold wrap64; omega
theorem tmod_two (a : Nat) : ((a : Int)).tmod 2 = ((a % 2 : Nat) : Int) := by rw [Int.tmod_eq_emod_of_nonneg (by omega)]; omega
theorem cast_div_pow (a k : Nat) : (a : Int) / 2 ^ k = ((a / 2 ^ k : Nat) : Int) := by
  rw [Int.natCast_ediv, Int.natCast_pow]; rfl
/-- The spellings that the walk gives to one bit. -/
theorem walk_bit_hi (n i : Nat) (h : 64 ≤ i) : wrap64 ((((hiN n : Nat) : Int) / 2 ^ (i - 64)).tmod 2) = ((bitN n i : Nat) : Int) := by
  rw [cast_div_pow, tmod_two, bitN_hi n i h, wrap64_small _ (by have := bitN_lt n i; omega)]
theorem walk_bit_lo (n i : Nat) (h : i < 64) : wrap64 ((((loN n : Nat) : Int) / 2 ^ i).tmod 2) = ((bitN n i : Nat) : Int) := by
  rw [cast_div_pow, tmod_two, bitN_lo n i h, wrap64_small _ (by have := bitN_lt n i; omega)]

theorem wrap_u64_small (n : Nat) (h : n < 18446744073709551616) : IntKind.u64.wrap (n : Int) = (n : Int) := by rw [IntKind.wrap_u64]; omega
/-- The lowest k decimal digits, the highest first, as bytes. -/
def digB (n : Nat) : UInt8 := UInt8.ofNat (48 + n % 10)
def decN : Nat → Nat → List UInt8
  | 0, _ => []
  | k + 1, n => digB (n / 10 ^ k) :: decN k n
theorem decN_length : ∀ k n, (decN k n).length = k
  | 0, _ => rfl
  | k + 1, n => by simp [decN, decN_length k n]
end Go.Proofs.YtdphflbgecnhkaaDoor.Wm
namespace Go.Proofs.YtdphflbgecnhkaaDoor
open Go.RowKit Go.Sort Wm

theorem bit_any (n i : Nat) (hi : i < 128) (w : World) :
    Calls Tryd.prog 19 #[numV n, .int .i64 i] w fun e w' => e = .returned (.int .i64 ((bitN n i : Nat) : Int)) ∧ Below w.heap.size w w' := by
  by_cases h1 : 64 ≤ i
  · have hb := Lib.hid (walk_bit_hi n i h1)
    go_enter Tryd.func19, Tryd.ntmps19
    go_wp2
    go_ret
    exact ⟨by simp [hb.out], (Below.refl _ _).alloc (Nat.le_refl _) _⟩
  · have h2 : i < 64 := by omega
    have hb := Lib.hid (walk_bit_lo n i h2)
    clear h1
    go_enter Tryd.func19, Tryd.ntmps19
    go_wp2
    go_ret
    exact ⟨by simp [hb.out], (Below.refl _ _).alloc (Nat.le_refl _) _⟩

end Go.Proofs.YtdphflbgecnhkaaDoor
