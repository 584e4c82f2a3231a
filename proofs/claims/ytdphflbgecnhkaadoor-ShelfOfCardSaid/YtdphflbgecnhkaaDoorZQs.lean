/- Stage 5: a leaf's sector, as bytes. Plain: no condition. -/
import Derived.Test.YtdphflbgecnhkaaDoorZTq
import Derived.Test.YtdphflbgecnhkaaDoorZPm
import Derived.Test.YtdphflbgecnhkaaDoorZQm
import Derived.Test.YtdphflbgecnhkaaDoorZCt
namespace Go.Proofs.YtdphflbgecnhkaaDoor
open Go Cr

theorem cut_left (a b : ByteArray) (i j : Nat) (h : j ≤ a.size) : (a ++ b).extract i j = a.extract i j := by
  rw [ByteArray.extract_append, ByteArray.extract_eq_empty_iff.2 (by omega : min (j - a.size) b.size ≤ i - a.size), ByteArray.append_empty]
theorem cut_right (a b : ByteArray) (i j : Nat) (h : a.size ≤ i) : (a ++ b).extract i j = b.extract (i - a.size) (j - a.size) := by
  rw [ByteArray.extract_append, ByteArray.extract_eq_empty_iff.2 (by omega : min j a.size ≤ i), ByteArray.empty_append]
theorem cut_all (a : ByteArray) (j : Nat) (h : j = a.size) : a.extract 0 j = a := by subst h; exact ByteArray.extract_zero_size
/-- All but the sum and the last number. -/
def bodyB (N I : Int) (D : ByteArray) : ByteArray := intB 8 N ++ (intB 2 I ++ (intB 2 ((D.size : Nat) : Int) ++ (D ++ zerosB (104 - D.size))))
/-- A leaf's sector. -/
def secB (N I : Int) (D : ByteArray) : ByteArray := bodyB N I D ++ (fourT (sumC 0 (bytesC (bodyB N I D))) ++ intB 8 N)
structure LeafOk (N I : Int) (D : ByteArray) : Prop where
  n : 1 ≤ N ∧ N ≤ 1152921504606846976
  i : 0 ≤ I ∧ I < 4096
  d : D.size ≤ 104
theorem int8_size (n : Int) : (intB 8 n).size = 8 := by rw [intB_size]; rfl
theorem int2_size (n : Int) : (intB 2 n).size = 2 := by rw [intB_size]; rfl
theorem intB_inj8 {n m : Int} (hn : 0 ≤ n ∧ n < 18446744073709551616) (hm : 0 ≤ m ∧ m < 18446744073709551616) (h : intB 8 n = intB 8 m) : n = m := by
  have e : ∀ z : Int, valL (bytesN (intB 8 z)) = u64N z % 256 ^ 8 := fun z => valL_textP _ _
  have := (e n).symm.trans ((congrArg (fun s => valL (bytesN s)) h).trans (e m))
  have h1 := u64N_lt n
  have h2 := u64N_lt m
  unfold u64N at *
  omega
theorem intB_inj2 {n m : Int} (hn : 0 ≤ n ∧ n < 65536) (hm : 0 ≤ m ∧ m < 65536) (h : intB 2 n = intB 2 m) : n = m := by
  have e : ∀ z : Int, valL (bytesN (intB 2 z)) = u64N z % 256 ^ 2 := fun z => valL_textP _ _
  have := (e n).symm.trans ((congrArg (fun s => valL (bytesN s)) h).trans (e m))
  unfold u64N at *
  omega
section
variable {N I : Int} {D : ByteArray} (hD : D.size ≤ 104)
include hD
theorem bodyB_size : (bodyB N I D).size = 116 := by
  unfold bodyB
  rw [ByteArray.size_append, ByteArray.size_append, ByteArray.size_append, ByteArray.size_append, int8_size, int2_size, int2_size, zerosB_size]
  omega
theorem secB_head : (secB N I D).extract 0 8 = intB 8 N := by
  unfold secB
  rw [cut_left _ _ _ _ (by rw [bodyB_size hD]; omega)]
  unfold bodyB
  rw [cut_left _ _ _ _ (by rw [int8_size]; omega)]
  exact cut_all _ _ (by rw [int8_size])
theorem secB_index : (secB N I D).extract 8 10 = intB 2 I := by
  unfold secB
  rw [cut_left _ _ _ _ (by rw [bodyB_size hD]; omega)]
  unfold bodyB
  rw [cut_right _ _ _ _ (by rw [int8_size]; omega), int8_size, cut_left _ _ _ _ (by rw [int2_size]; omega)]
  exact cut_all _ _ (by rw [int2_size])
theorem secB_len : (secB N I D).extract 10 12 = intB 2 ((D.size : Nat) : Int) := by
  unfold secB
  rw [cut_left _ _ _ _ (by rw [bodyB_size hD]; omega)]
  unfold bodyB
  rw [cut_right _ _ _ _ (by rw [int8_size]; omega), int8_size, cut_right _ _ _ _ (by rw [int2_size]; omega), int2_size, cut_left _ _ _ _ (by rw [int2_size]; omega)]
  exact cut_all _ _ (by rw [int2_size])
theorem secB_data : (secB N I D).extract 12 (12 + D.size) = D := by
  unfold secB
  rw [cut_left _ _ _ _ (by rw [bodyB_size hD]; omega)]
  unfold bodyB
  rw [cut_right _ _ _ _ (by rw [int8_size]; omega), int8_size, cut_right _ _ _ _ (by rw [int2_size]; omega), int2_size, cut_right _ _ _ _ (by rw [int2_size]; omega), int2_size, cut_left _ _ _ _ (by omega)]
  exact cut_all _ _ (by omega)
end
/-- A sector is one leaf's. -/
theorem secB_inj {N I : Int} {D : ByteArray} {N' I' : Int} {D' : ByteArray} (h : LeafOk N I D) (h' : LeafOk N' I' D') (e : secB N I D = secB N' I' D') : N = N' ∧ I = I' ∧ D = D' := by
  have a1 := h.n
  have a2 := h'.n
  have b1 := h.i
  have b2 := h'.i
  have d1 := h.d
  have d2 := h'.d
  have eN := intB_inj8 (by omega) (by omega) ((secB_head d1).symm.trans ((congrArg (fun s => s.extract 0 8) e).trans (secB_head d2)))
  have eI := intB_inj2 (by omega) (by omega) ((secB_index d1).symm.trans ((congrArg (fun s => s.extract 8 10) e).trans (secB_index d2)))
  have eL := intB_inj2 (by omega) (by omega) ((secB_len d1).symm.trans ((congrArg (fun s => s.extract 10 12) e).trans (secB_len d2)))
  have eL2 : D.size = D'.size := by omega
  refine ⟨eN, eI, ?_⟩
  have e3 : (secB N' I' D').extract 12 (12 + D.size) = D' := by rw [eL2]; exact secB_data d2
  exact (secB_data d1).symm.trans ((congrArg (fun s => s.extract 12 (12 + D.size)) e).trans e3)
end Go.Proofs.YtdphflbgecnhkaaDoor
