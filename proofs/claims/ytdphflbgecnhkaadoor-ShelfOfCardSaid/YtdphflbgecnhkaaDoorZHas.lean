/- A list of cells that are known in a world, carried along. No program. -/
import Derived.WalkKit
namespace Go.Proofs.YtdphflbgecnhkaaDoor
open Go.RowKit

/-- Known cells: block, offset, value. -/
def Has (w : World) : List (Nat × Nat × Value) → Prop
  | [] => True
  | f :: r => (w.cell? ⟨f.1, f.2.1, none⟩ = some f.2.2 ∧ f.1 < w.heap.size) ∧ Has w r
theorem Has.later {w w2 : World} (hb : Below w.heap.size w w2) : ∀ {fs : List (Nat × Nat × Value)}, Has w fs → Has w2 fs
  | [], _ => trivial
  | _ :: _, h => ⟨⟨by rw [hb.cell (by exact h.1.2)]; exact h.1.1, Nat.lt_of_lt_of_le h.1.2 hb.size⟩, Has.later hb h.2⟩
theorem Has.alloc {w : World} {fs : List (Nat × Nat × Value)} (h : Has w fs) (o : Obj) : Has (w.alloc o) fs := h.later ((Below.refl _ _).alloc (Nat.le_refl _) o)
theorem Has.new2 {w : World} {fs : List (Nat × Nat × Value)} (h : Has w fs) (x y : Value) (t : TypeId) : Has (w.alloc (.cells #[x, y] t)) ((w.heap.size, 0, x) :: (w.heap.size, 1, y) :: fs) :=
  ⟨⟨by simp [go_sem], by simp⟩, ⟨by simp [go_sem], by simp⟩, h.alloc _⟩
end Go.Proofs.YtdphflbgecnhkaaDoor
