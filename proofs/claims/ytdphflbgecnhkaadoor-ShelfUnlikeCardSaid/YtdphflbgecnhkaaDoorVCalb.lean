/- A block of known cells, carried along. Plain, over whatever program. No condition. -/
/- A block of known cells, as a range to be loaded whole. Plain, over whatever program. No condition. -/
import Derived.Test.YtdphflbgecnhkaaDoorVOnly
import Derived.Test.YtdphflbgecnhkaaDoorVCalm
import Derived.WalkKit
import Derived.Deep.WholeRow
namespace Go.Proofs.YtdphflbgecnhkaaDoor
open Go.RowKit

/-- The cells of a block. -/
structure BoxAt (w : World) (b : Nat) (cs : List Value) : Prop where
  spot : ∀ j v, cs[j]? = some v → w.cell? ⟨b, j, none⟩ = some v
  lt : b < w.heap.size
theorem BoxAt.new (w : World) (cs : List Value) (t : TypeId) : BoxAt (w.alloc (.cells cs.toArray t)) w.heap.size cs :=
  ⟨fun j v hj => by simpa [go_sem] using hj, by simp⟩
theorem BoxAt.later {w w2 : World} {b : Nat} {cs : List Value} (h : BoxAt w b cs) (hb : Below w.heap.size w w2) : BoxAt w2 b cs :=
  ⟨fun j v hj => by rw [hb.cell (p := ⟨b, j, none⟩) h.lt]; exact h.spot j v hj, Nat.lt_of_lt_of_le h.lt hb.size⟩
theorem BoxAt.only {F : Nat → Prop} {w w2 : World} {b : Nat} {cs : List Value} (h : BoxAt w b cs) (hb : Only F w w2) (hf : ¬ F b) : BoxAt w2 b cs :=
  ⟨fun j v hj => by rw [hb.cell (p := ⟨b, j, none⟩) h.lt hf]; exact h.spot j v hj, Nat.lt_of_lt_of_le h.lt hb.size⟩
end Go.Proofs.YtdphflbgecnhkaaDoor
namespace Go.Proofs.YtdphflbgecnhkaaDoor
open Go.RowKit

theorem BoxAt.range {W : World} {b : Nat} {cs : List Value} (h : BoxAt W b cs) : W.rangeAt b 0 cs := fun j v hj => by rw [Nat.zero_add]; exact h.spot j v hj
end Go.Proofs.YtdphflbgecnhkaaDoor
