/- A list of cells that are known in a world, carried along. No program. -/
/- The document's own bytes: bit by bit. -/
import Derived.Test.YtdphflbgecnhkaaDoorVBa
import Derived.WalkKit
namespace Go.Proofs.YtdphflbgecnhkaaDoor
open Go.RowKit

/-- Known cells: block, offset, value. -/
def Has (w : World) : List (Nat × Nat × Value) → Prop
  | [] => True
  | f :: r => (w.cell? ⟨f.1, f.2.1, none⟩ = some f.2.2 ∧ f.1 < w.heap.size) ∧ Has w r
theorem Has.later {w w2 : World} (hb : Below w.heap.size w w2) : ∀ {fs : List (Nat × Nat × Value)}, Has w fs → Has w2 fs
  | [], _ => trivial
  | _ :: _, h => ⟨⟨by rw [hb.cell (by exact h.1.2)]; exact h.1.1, Nat.lt_of_lt_of_le h.1.2 hb.size⟩, Has.later hb h.2⟩
theorem Has.alloc {w : World} {fs : List (Nat × Nat × Value)} (h : Has w fs) (o : Obj) : Has (w.alloc o) fs := h.later ((Below.refl _ _).alloc (Nat.le_refl _) o)
end Go.Proofs.YtdphflbgecnhkaaDoor
namespace Go.Proofs.YtdphflbgecnhkaaDoor
open Go.RowKit Go.Sort Wm

def bytesP (n j : Nat) : List UInt8 := (List.range j).map (byteN n)
theorem bytesP_length (n j : Nat) : (bytesP n j).length = j := by simp [bytesP]
def textP (n j : Nat) : ByteArray := ⟨(bytesP n j).toArray⟩
theorem textP_size (n j : Nat) : (textP n j).size = j := by
  show (bytesP n j).toArray.size = j
  simp [bytesP_length]
end Go.Proofs.YtdphflbgecnhkaaDoor
