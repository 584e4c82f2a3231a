/- Stage 5: parts of a text, what a sector is read as. Plain: no condition. -/
import Derived.Test.YtdphflbgecnhkaaDoorZQs
namespace Go.Proofs.YtdphflbgecnhkaaDoor
open Go Cr

/-- How many sectors so many bytes take. -/
def countN (n : Nat) : Nat := if n ≤ 104 then 1 else (n + 103) / 104
theorem countN_pos (n : Nat) : 1 ≤ countN n := by unfold countN; split <;> omega
theorem countN_ge (n : Nat) : n ≤ 104 * countN n := by unfold countN; split <;> omega
theorem countN_stop (n k : Nat) (h : 1 ≤ k) (h2 : n ≤ 104 * k) : countN n ≤ k := by unfold countN; split <;> omega
/-- The i-th part. -/
def partS (s : ByteArray) (i : Nat) : ByteArray := s.extract (min (104 * i) s.size) (min (104 * i + 104) s.size)
theorem partS_size (s : ByteArray) (i : Nat) : (partS s i).size = min (104 * i + 104) s.size - min (104 * i) s.size := by
  unfold partS
  rw [ByteArray.size_extract]
  omega
theorem partS_le (s : ByteArray) (i : Nat) : (partS s i).size ≤ 104 := by rw [partS_size]; omega
theorem cut_join (s : ByteArray) (a b : Nat) (h : a ≤ b) (hb : b ≤ s.size) : s.extract 0 a ++ s.extract a b = s.extract 0 b := by
  have e1 : (s.extract 0 a).size = a := by rw [ByteArray.size_extract]; omega
  have e2 : (s.extract a b).size = b - a := by rw [ByteArray.size_extract]; omega
  have e3 : (s.extract 0 b).size = b := by rw [ByteArray.size_extract]; omega
  refine ByteArray.ext_getElem (by rw [ByteArray.size_append]; omega) (fun i h1 h2 => ?_)
  by_cases hi : i < a
  · refine (ByteArray.getElem_append_left (a := s.extract 0 a) (b := s.extract a b) (by omega)).trans ?_
    rw [ByteArray.getElem_extract, ByteArray.getElem_extract]
  · refine (ByteArray.getElem_append_right (a := s.extract 0 a) (b := s.extract a b) (by omega)).trans ?_
    rw [ByteArray.getElem_extract, ByteArray.getElem_extract]
    congr 1
    omega
/-- The first parts, joined. -/
theorem part_join (s : ByteArray) (k : Nat) : s.extract 0 (min (104 * k) s.size) ++ partS s k = s.extract 0 (min (104 * (k + 1)) s.size) := by
  unfold partS
  rw [cut_join s _ _ (by omega) (by omega), show 104 * k + 104 = 104 * (k + 1) by omega]
theorem part_all (s : ByteArray) : s.extract 0 (min (104 * countN s.size) s.size) = s := by
  have := countN_ge s.size
  exact cut_all _ _ (by omega)
/-- What a sector is read as: the leaf whose sector it is, if it is one's. -/
noncomputable def leafOf (s : ByteArray) : Option (Int × Int × ByteArray) :=
  open Classical in if h : ∃ x : Int × Int × ByteArray, LeafOk x.1 x.2.1 x.2.2 ∧ secB x.1 x.2.1 x.2.2 = s then some h.choose else none
theorem leafOf_sec {N I : Int} {D : ByteArray} (h : LeafOk N I D) : leafOf (secB N I D) = some (N, I, D) := by
  have hx : ∃ x : Int × Int × ByteArray, LeafOk x.1 x.2.1 x.2.2 ∧ secB x.1 x.2.1 x.2.2 = secB N I D := ⟨(N, I, D), h, rfl⟩
  unfold leafOf
  rw [dif_pos hx]
  obtain ⟨a, b⟩ := hx.choose_spec
  obtain ⟨e1, e2, e3⟩ := secB_inj a h b
  congr 1
  exact Prod.ext e1 (Prod.ext e2 e3)
end Go.Proofs.YtdphflbgecnhkaaDoor
