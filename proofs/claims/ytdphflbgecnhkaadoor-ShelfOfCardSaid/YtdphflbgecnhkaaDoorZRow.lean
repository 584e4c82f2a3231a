/- A text's bytes laid in new memory, written, and taken back. No condition. -/
import Derived.Test.YtdphflbgecnhkaaDoorRows
import Derived.WalkKit
import Derived.WalkSpells
import Derived.Lib.Hide
import Derived.Below
import Derived.Laws.IdiomStrings
namespace Go.Proofs.YtdphflbgecnhkaaDoor
open Go.RowKit

/-- A block of n bytes that may be written, behind a world w. -/
structure RowIs (w wr : World) (B n : Nat) (f : Nat → Nat) : Prop where
  cell : ∀ j, j < n → wr.cell? ⟨B, j, none⟩ = some (.int .u8 ((f j : Nat) : Int))
  fz : ∀ j, j < n → wr.frozen? ⟨B, j, none⟩ = false
  below : Below w.heap.size w wr
  far : w.heap.size ≤ B
  near : B < wr.heap.size
/-- A text's byte. -/
def byteOf (s : ByteArray) (j : Nat) : Nat := (s.data.toList.getD j 0).toNat
theorem byteOf_lt (s : ByteArray) (j : Nat) : byteOf s j < 256 := UInt8.toNat_lt _
theorem RowIs.later {w wr w2 : World} {B n : Nat} {f : Nat → Nat} (h : RowIs w wr B n f) (hb : Below wr.heap.size wr w2) : RowIs w w2 B n f :=
  ⟨fun j hj => by rw [hb.cell (p := ⟨B, j, none⟩) h.near]; exact h.cell j hj, fun j hj => by rw [hb.frozen (p := ⟨B, j, none⟩) h.near]; exact h.fz j hj,
    h.below.trans (hb.mono h.below.size), h.far, Nat.lt_of_lt_of_le h.near hb.size⟩
/-- One byte written. -/
def setF (f : Nat → Nat) (k x : Nat) : Nat → Nat := fun j => if j = k then x else f j
theorem RowIs.put {w wr : World} {B n : Nat} {f : Nat → Nat} (h : RowIs w wr B n f) {k x : Nat} (hk : k < n) :
    RowIs w (wr.setCell ⟨B, k, none⟩ (.int .u8 ((x : Nat) : Int))) B n (setF f k x) := by
  refine ⟨fun j hj => ?_, fun j hj => by simpa using h.fz j hj, h.below.setCell h.far _, h.far, by simpa using h.near⟩
  unfold setF
  by_cases e : j = k
  · subst e
    rw [if_pos rfl]
    exact World.cell?_setCell_same _ _ _ (h.cell j hj)
  · rw [if_neg e, World.cell?_setCell_other]
    · exact h.cell j hj
    · intro e2; injection e2 with _ e3 _; omega
/-- .. and taken back. -/
def textOf (n : Nat) (f : Nat → Nat) : ByteArray := ⟨((List.range n).map fun j => UInt8.ofNat (f j)).toArray⟩
theorem RowIs.back {w wr : World} {B n : Nat} {f : Nat → Nat} (h : RowIs w wr B n f) (hf : ∀ j, f j < 256) (cap : Nat) :
    (convert 40 9 (.slice (some ⟨B, 0, none⟩) n cap)).run Tryd.prog wr = .ok (.string (textOf n f)) wr := by
  have := run_convert_bytes_back (P := Tryd.prog) wr 40 9 5 ⟨B, 0, none⟩ cap ((List.range n).map fun j => UInt8.ofNat (f j)) Tryd.underlying40 Tryd.underlying5 Tryd.underlying9 (fun j hj => by
    have hj2 : j < n := by simpa using hj
    have := h.cell j hj2
    have e : (((List.range n).map fun j => UInt8.ofNat (f j))[j]'hj).toNat = f j := by
      simp only [List.getElem_map, List.getElem_range, UInt8.toNat_ofNat']
      have := hf j
      omega
    rw [e]
    simp only [Addr.add]
    split
    · rename_i h0; subst h0; simpa using this
    · simpa using this)
  rw [show ((List.range n).map fun j => UInt8.ofNat (f j)).length = n by simp] at this
  exact this
end Go.Proofs.YtdphflbgecnhkaaDoor
