/- Stage 5: of two texts of 128 bytes the first bytes of the one with the last ones of the other. Plain: no program, no condition. -/
import Derived.RowKit
namespace Go.Proofs.Ytageeodmpbngaaa
open Go

/-- The first bytes of one, the last ones of the other. -/
def mixB (x y : ByteArray) (k : Nat) : ByteArray := x.extract 0 k ++ y.extract k 128
theorem mixB_size {x y : ByteArray} (hx : x.size = 128) (hy : y.size = 128) {k : Nat} (hk : k ≤ 128) : (mixB x y k).size = 128 := by
  unfold mixB
  rw [ByteArray.size_append, ByteArray.size_extract, ByteArray.size_extract]
  omega
theorem mixB_get {x y : ByteArray} (hx : x.size = 128) (hy : y.size = 128) {k : Nat} (hk : k ≤ 128) (i : Nat) (hi : i < 128) :
    (mixB x y k)[i]'(by rw [mixB_size hx hy hk]; exact hi) = if i < k then x[i]'(by omega) else y[i]'(by omega) := by
  have e1 : (x.extract 0 k).size = k := by rw [ByteArray.size_extract]; omega
  split
  · rename_i h
    refine (ByteArray.getElem_append_left (a := x.extract 0 k) (b := y.extract k 128) (by omega)).trans ?_
    rw [ByteArray.getElem_extract]
    congr 1; omega
  · rename_i h
    refine (ByteArray.getElem_append_right (a := x.extract 0 k) (b := y.extract k 128) (by omega)).trans ?_
    rw [ByteArray.getElem_extract]
    congr 1; omega
/-- Texts that are alike at each place. -/
theorem text_ext {x y : ByteArray} (hx : x.size = 128) (hy : y.size = 128) (h : ∀ i (hi : i < 128), x[i]'(by omega) = y[i]'(by omega)) : x = y :=
  ByteArray.ext_getElem (by omega) (fun i h1 _ => h i (by omega))
/-- The eight bytes from a place on are alike. -/
def Alike (x : ByteArray) (i : Nat) (y : ByteArray) (j : Nat) : Prop := x.extract i (i + 8) = y.extract j (j + 8)
theorem Alike.at {x y : ByteArray} (hx : x.size = 128) (hy : y.size = 128) {i j : Nat} (hi : i ≤ 120) (hj : j ≤ 120) (h : Alike x i y j) (d : Nat) (hd : d < 8) : x[i + d]'(by omega) = y[j + d]'(by omega) := by
  unfold Alike at h
  have e1 : (x.extract i (i + 8)).size = 8 := by rw [ByteArray.size_extract]; omega
  have e2 : (y.extract j (j + 8)).size = 8 := by rw [ByteArray.size_extract]; omega
  have a : (x.extract i (i + 8))[d]'(by omega) = x[i + d]'(by omega) := by rw [ByteArray.getElem_extract]
  have b : (y.extract j (j + 8))[d]'(by omega) = y[j + d]'(by omega) := by rw [ByteArray.getElem_extract]
  rw [← a, ← b]
  congr 1
theorem Alike.of {x y : ByteArray} (hx : x.size = 128) (hy : y.size = 128) {i j : Nat} (hi : i ≤ 120) (hj : j ≤ 120) (h : ∀ d (hd : d < 8), x[i + d]'(by omega) = y[j + d]'(by omega)) : Alike x i y j := by
  unfold Alike
  have e1 : (x.extract i (i + 8)).size = 8 := by rw [ByteArray.size_extract]; omega
  have e2 : (y.extract j (j + 8)).size = 8 := by rw [ByteArray.size_extract]; omega
  refine ByteArray.ext_getElem (by omega) (fun d h1 h2 => ?_)
  rw [ByteArray.getElem_extract, ByteArray.getElem_extract]
  exact h d (by omega)
theorem Alike.symm {x y : ByteArray} {i j : Nat} (h : Alike x i y j) : Alike y j x i := Eq.symm h
theorem Alike.trans {x y z : ByteArray} {i j k : Nat} (h : Alike x i y j) (h2 : Alike y j z k) : Alike x i z k := Eq.trans h h2
section
variable {x y : ByteArray} (hx : x.size = 128) (hy : y.size = 128) {k : Nat} (hk : k ≤ 128)
include hx hy hk
theorem mix_is_first (h8 : 120 ≤ k) (h : Alike (mixB x y k) 120 x 120) : mixB x y k = x := by
  refine text_ext (mixB_size hx hy hk) hx fun i hi => ?_
  by_cases e : 120 ≤ i
  · have := h.at (mixB_size hx hy hk) hx (by omega) (by omega) (i - 120) (by omega)
    have e2 : 120 + (i - 120) = i := by omega
    simp only [e2] at this
    exact this
  · rw [mixB_get hx hy hk i hi, if_pos (by omega)]
end
end Go.Proofs.Ytageeodmpbngaaa
