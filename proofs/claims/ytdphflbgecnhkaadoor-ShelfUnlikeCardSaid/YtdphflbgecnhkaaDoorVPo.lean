/- Plain arithmetic for layer 1: a number of 128 bits as its two words, bit by bit sums and differences. No condition. -/
/- Plain arithmetic for the document's own digits: doubled digit by digit. No condition. -/
/- A number of two words that came in as an argument, opened. No condition. -/
import Derived.Test.YtdphflbgecnhkaaDoorRows
import Derived.Laws.Bits64
import Derived.RowKit
import Derived.WalkKit
import Derived.Laws.Bits64b
import Derived.ProofKit
import Derived.OpenShut
import Derived.ChangeOld
import Derived.Below
import Derived.Lib.SmallJoins
import Derived.SizedLaws
namespace Go.Proofs.YtdphflbgecnhkaaDoor.Wm
open Go Go.RowKit

/-- The two words of a number below 2^128. -/
def hiN (n : Nat) : Nat := n / 18446744073709551616
def loN (n : Nat) : Nat := n % 18446744073709551616
def num (h l : Nat) : Nat := h * 18446744073709551616 + l
/-- What a 128-bit number is as a value. -/
abbrev numV (n : Nat) : Value := .agg #[.int .u64 ((hiN n : Nat) : Int), .int .u64 ((loN n : Nat) : Int)]
def big : Nat := 340282366920938463463374607431768211456

theorem big_eq : big = 340282366920938463463374607431768211456 := rfl
theorem hiN_lt {n : Nat} (h : n < big) : hiN n < 18446744073709551616 := by unfold hiN; rw [big_eq] at h; omega
theorem loN_lt (n : Nat) : loN n < 18446744073709551616 := by unfold loN; omega
theorem num_hi_lo (n : Nat) : num (hiN n) (loN n) = n := by unfold num hiN loN; omega
theorem num_inj {a b : Nat} (h1 : hiN a = hiN b) (h2 : loN a = loN b) : a = b := by
  rw [← num_hi_lo a, ← num_hi_lo b, h1, h2]

theorem cast_div_pow (a k : Nat) : (a : Int) / 2 ^ k = ((a / 2 ^ k : Nat) : Int) := by
  rw [Int.natCast_ediv, Int.natCast_pow]; rfl
theorem wrap_u64_small (n : Nat) (h : n < 18446744073709551616) : IntKind.u64.wrap (n : Int) = (n : Int) := by rw [IntKind.wrap_u64]; omega
/-- The lowest k decimal digits, the highest first, as bytes. -/
def digB (n : Nat) : UInt8 := UInt8.ofNat (48 + n % 10)
def decN : Nat → Nat → List UInt8
  | 0, _ => []
  | k + 1, n => digB (n / 10 ^ k) :: decN k n
theorem decN_length : ∀ k n, (decN k n).length = k
  | 0, _ => rfl
  | k + 1, n => by simp [decN, decN_length k n]
end Go.Proofs.YtdphflbgecnhkaaDoor.Wm
namespace Go.Proofs.YtdphflbgecnhkaaDoor.Wm
open Go Go.RowKit

/-- Digit e of a number, counted from the lowest. -/
def digE (X e : Nat) : Nat := X / 10 ^ e % 10
end Go.Proofs.YtdphflbgecnhkaaDoor.Wm
namespace Go.Proofs.YtdphflbgecnhkaaDoor
open Go.ChangeShapes Go.WideShapes Go.ChangeAt Go.WideMaps Go.WideElems Go.RowKit Go.Joins Wm

theorem cellsNum : Tryd.prog.cellsOf 27 = 2 := by kernel_rfl
end Go.Proofs.YtdphflbgecnhkaaDoor
