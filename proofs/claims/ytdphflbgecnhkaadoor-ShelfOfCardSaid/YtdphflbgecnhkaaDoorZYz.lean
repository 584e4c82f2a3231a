/- Stage 26: the landed shelf's Of. No condition but that a number is one. -/
import Derived.Test.YtdphflbgecnhkaaDoorZBa
import Derived.Test.YtdphflbgecnhkaaDoorZBc
import Derived.Test.YtdphflbgecnhkaaDoorZYx
namespace Go.Proofs.YtdphflbgecnhkaaDoor
open Go.RowKit Go.Sort Wm

def ofQ (n : Nat) : Place := ⟨nameOf ((numB n).extract 0 10), nameOf ((numB n).extract 10 14), (((numB n).data.toList.getD 14 0).toNat : Int)⟩
theorem ofQ_wf (n : Nat) : (ofQ n).Wf := by
  have h : ∀ x : ByteArray, (nameOf x).size ≤ x.size := fun x => by
    have e := congrArg ByteArray.size (fill_nameOf x)
    unfold fillB at e
    rw [ByteArray.size_append] at e
    omega
  have h1 := h ((numB n).extract 0 10)
  have h2 := h ((numB n).extract 10 14)
  rw [ByteArray.size_extract, numB_size] at h1 h2
  have h3 : ((numB n).data.toList.getD 14 0).toNat < 256 := UInt8.toNat_lt _
  refine ⟨?_, ?_, ?_⟩
  · show (nameOf _).size ≤ _
    omega
  · show (nameOf _).size ≤ _
    omega
  · show _ ∧ _
    constructor
    · show (-9223372036854775808 : Int) ≤ (((numB n).data.toList.getD 14 0).toNat : Int)
      omega
    · show (((numB n).data.toList.getD 14 0).toNat : Int) ≤ 9223372036854775807
      omega
theorem split16 (b : ByteArray) (h : b.size = 16) : b = b.extract 0 10 ++ b.extract 10 14 ++ ⟨#[b.data.toList.getD 14 0, b.data.toList.getD 15 0]⟩ := by
  apply bytes_ext
  have hl : b.data.toList.length = 16 := h
  rw [ByteArray.data_append, ByteArray.data_append, Array.toList_append, Array.toList_append, ByteArray.data_extract, ByteArray.data_extract, Array.toList_extract, Array.toList_extract]
  generalize b.data.toList = l at *
  match l, hl with
  | [a0, a1, a2, a3, a4, a5, a6, a7, a8, a9, a10, a11, a12, a13, a14, a15], _ => rfl
theorem ofPl_yes {n : Nat} (h1 : (numB n).data.toList.getD 15 0 = 1) (hg : goodPl (ofQ n) = true) : ofPl n = some (ofQ n) := by
  refine ofPl_of hg ?_
  have e := split16 (numB n) (numB_size n)
  rw [h1] at e
  have f1 := fill_nameOf ((numB n).extract 0 10)
  have f2 := fill_nameOf ((numB n).extract 10 14)
  rw [ByteArray.size_extract, numB_size] at f1 f2
  have f1' : fillB (ofQ n).Good 10 = (numB n).extract 0 10 := f1
  have f2' : fillB (ofQ n).Site 4 = (numB n).extract 10 14 := f2
  have f3 : tailB (ofQ n).State = ⟨#[(numB n).data.toList.getD 14 0, 1]⟩ := by
    show (⟨#[UInt8.ofNat (((numB n).data.toList.getD 14 0).toNat : Int).toNat, 1]⟩ : ByteArray) = _
    rw [Int.toNat_natCast, UInt8.ofNat_toNat]
  unfold plcB
  rw [f1', f2', f3]
  exact e.symm
theorem ofPl_back {n : Nat} {p : Place} (h : ofPl n = some p) : ofQ n = p ∧ (numB n).data.toList.getD 15 0 = 1 ∧ goodPl (ofQ n) = true := by
  obtain ⟨hg, hb⟩ := ofPl_some h
  obtain ⟨e1, e2, e3⟩ := plcB_parts hg
  obtain ⟨g1, g2, g3⟩ := (goodPl_iff p).1 hg
  rw [hb] at e1 e2 e3
  have hl : (numB n).data.toList.length = 16 := numB_size n
  have t1 : (numB n).data.toList.getD 14 0 = UInt8.ofNat p.State.toNat ∧ (numB n).data.toList.getD 15 0 = 1 := by
    have k := congrArg (fun s : ByteArray => s.data.toList) e3
    simp only [ByteArray.data_extract, Array.toList_extract, tailB] at k
    generalize (numB n).data.toList = l at *
    match l, hl with
    | [a0, a1, a2, a3, a4, a5, a6, a7, a8, a9, a10, a11, a12, a13, a14, a15], _ =>
      have k2 : [a14, a15] = [UInt8.ofNat p.State.toNat, 1] := k
      injection k2 with k3 k4
      injection k4 with k5 _
      exact ⟨k3, k5⟩
  have q : ofQ n = p := by
    unfold ofQ
    rw [e1, e2, nameOf_fill ((nameB_iff _ _).1 g1).2, nameOf_fill ((nameB_iff _ _).1 g2).2, t1.1, UInt8.toNat_ofNat_of_lt' (by show p.State.toNat < 256; omega)]
    exact Place.same rfl rfl (by show ((p.State.toNat : Nat) : Int) = p.State; omega)
  exact ⟨q, t1.2, by rw [q]; exact hg⟩
theorem ofPl_no {n : Nat} (h : ¬ ((numB n).data.toList.getD 15 0 = 1 ∧ goodPl (ofQ n) = true)) : ofPl n = none := by
  cases hp : ofPl n with
  | none => rfl
  | some p => exact absurd (ofPl_back hp).2 h
/-- What Of works beside. -/
structure OfW (w wr : World) : Prop where
  r0 : wr.cell? ⟨w.heap.size + 1, 0, none⟩ = some (.string ByteArray.empty)
  r1 : wr.cell? ⟨w.heap.size + 1, 1, none⟩ = some (.string ByteArray.empty)
  r2 : wr.cell? ⟨w.heap.size + 1, 2, none⟩ = some (.int .i64 0)
  g : ∀ j, wr.frozen? ⟨w.heap.size + 1, j, none⟩ = false
  lt : w.heap.size + 1 < wr.heap.size
  below : Below w.heap.size w wr
theorem OfW.later {w wr w2 : World} (h : OfW w wr) (hb : Below wr.heap.size wr w2) : OfW w w2 :=
  ⟨by rw [hb.cell (p := ⟨w.heap.size + 1, 0, none⟩) h.lt]; exact h.r0, by rw [hb.cell (p := ⟨w.heap.size + 1, 1, none⟩) h.lt]; exact h.r1, by rw [hb.cell (p := ⟨w.heap.size + 1, 2, none⟩) h.lt]; exact h.r2,
    fun j => by rw [hb.frozen (p := ⟨w.heap.size + 1, j, none⟩) h.lt]; exact h.g j, Nat.lt_of_lt_of_le h.lt hb.size, h.below.trans (hb.mono h.below.size)⟩
end Go.Proofs.YtdphflbgecnhkaaDoor
