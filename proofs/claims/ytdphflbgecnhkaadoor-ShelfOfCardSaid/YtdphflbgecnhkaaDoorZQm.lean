/- Stage 5: of two texts of 128 bytes the first bytes of the one with the last ones of the other. Plain: no program, no condition. -/
import Derived.RowKit
namespace Go.Proofs.YtdphflbgecnhkaaDoor
open Go

/-- The eight bytes from a place on are alike. -/
def Alike (x : ByteArray) (i : Nat) (y : ByteArray) (j : Nat) : Prop := x.extract i (i + 8) = y.extract j (j + 8)
theorem Alike.at {x y : ByteArray} (hx : x.size = 128) (hy : y.size = 128) {i j : Nat} (hi : i ≤ 120) (hj : j ≤ 120) (h : Alike x i y j) (d : Nat) (hd : d < 8) : x[i + d]'(by omega) = y[j + d]'(by omega) := by
  unfold Alike at h
  have e1 : (x.extract i (i + 8)).size = 8 := by rw [ByteArray.size_extract]; omega
  have e2 : (y.extract j (j + 8)).size = 8 := by rw [ByteArray.size_extract]; omega
  have a : (x.extract i (i + 8))[d]'(by omega) = x[i + d]'(by omega) := by rw [ByteArray.getElem_extract]
  have b : (y.extract j (j + 8))[d]'(by omega) = y[j + d]'(by omega) := by rw [ByteArray.getElem_extract]
  rw [← a, ← b]
  congr 1
theorem Alike.of {x y : ByteArray} (hx : x.size = 128) (hy : y.size = 128) {i j : Nat} (hi : i ≤ 120) (hj : j ≤ 120) (h : ∀ d (hd : d < 8), x[i + d]'(by omega) = y[j + d]'(by omega)) : Alike x i y j := by
  unfold Alike
  have e1 : (x.extract i (i + 8)).size = 8 := by rw [ByteArray.size_extract]; omega
  have e2 : (y.extract j (j + 8)).size = 8 := by rw [ByteArray.size_extract]; omega
  refine ByteArray.ext_getElem (by omega) (fun d h1 h2 => ?_)
  rw [ByteArray.getElem_extract, ByteArray.getElem_extract]
  exact h d (by omega)
theorem Alike.symm {x y : ByteArray} {i j : Nat} (h : Alike x i y j) : Alike y j x i := Eq.symm h
theorem Alike.trans {x y z : ByteArray} {i j k : Nat} (h : Alike x i y j) (h2 : Alike y j z k) : Alike x i z k := Eq.trans h h2
section
variable {x y : ByteArray} (hx : x.size = 128) (hy : y.size = 128) {k : Nat} (hk : k ≤ 128)
include hx hy hk
end
end Go.Proofs.YtdphflbgecnhkaaDoor
