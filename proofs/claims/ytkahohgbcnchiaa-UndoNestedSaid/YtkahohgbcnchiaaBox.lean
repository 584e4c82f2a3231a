/- A block of known cells, carried along. Plain, over whatever program. No condition. -/
import Derived.Test.YtkahohgbcnchiaaOnly
import Derived.WalkKit
namespace Go.Proofs.Ytkahohgbcnchiaa
open Go.RowKit

/-- The cells of a block. -/
structure BoxAt (w : World) (b : Nat) (cs : List Value) : Prop where
  spot : ∀ j v, cs[j]? = some v → w.cell? ⟨b, j, none⟩ = some v
  lt : b < w.heap.size
theorem BoxAt.new (w : World) (cs : List Value) (t : TypeId) : BoxAt (w.alloc (.cells cs.toArray t)) w.heap.size cs :=
  ⟨fun j v hj => by simpa [go_sem] using hj, by simp⟩
theorem BoxAt.later {w w2 : World} {b : Nat} {cs : List Value} (h : BoxAt w b cs) (hb : Below w.heap.size w w2) : BoxAt w2 b cs :=
  ⟨fun j v hj => by rw [hb.cell (p := ⟨b, j, none⟩) h.lt]; exact h.spot j v hj, Nat.lt_of_lt_of_le h.lt hb.size⟩
theorem BoxAt.only {F : Nat → Prop} {w w2 : World} {b : Nat} {cs : List Value} (h : BoxAt w b cs) (hb : Only F w w2) (hf : ¬ F b) : BoxAt w2 b cs :=
  ⟨fun j v hj => by rw [hb.cell (p := ⟨b, j, none⟩) h.lt hf]; exact h.spot j v hj, Nat.lt_of_lt_of_le h.lt hb.size⟩
theorem two_cells_call {w w' : World} {B i j : Nat} {v1 v2 : Value} (h : w.cell? ⟨B, i, none⟩ = some v1 ∧ w.cell? ⟨B, j, none⟩ = some v2 ∧ B < w.heap.size) (hb : Below w.heap.size w w') :
    w'.cell? ⟨B, i, none⟩ = some v1 ∧ w'.cell? ⟨B, j, none⟩ = some v2 ∧ B < w'.heap.size :=
  ⟨by rw [hb.cell (p := ⟨B, i, none⟩) h.2.2]; exact h.1, by rw [hb.cell (p := ⟨B, j, none⟩) h.2.2]; exact h.2.1, Nat.lt_of_lt_of_le h.2.2 hb.size⟩
theorem two_cells_only {w w' : World} {B i j : Nat} {v1 v2 : Value} {F : Nat → Prop} (hf : ¬ F B) (h : w.cell? ⟨B, i, none⟩ = some v1 ∧ w.cell? ⟨B, j, none⟩ = some v2 ∧ B < w.heap.size) (hb : Only F w w') :
    w'.cell? ⟨B, i, none⟩ = some v1 ∧ w'.cell? ⟨B, j, none⟩ = some v2 ∧ B < w'.heap.size :=
  ⟨by rw [hb.cell (p := ⟨B, i, none⟩) h.2.2 hf]; exact h.1, by rw [hb.cell (p := ⟨B, j, none⟩) h.2.2 hf]; exact h.2.1, Nat.lt_of_lt_of_le h.2.2 hb.size⟩
theorem one_cell_call {w w' : World} {B i : Nat} {v1 : Value} (h : w.cell? ⟨B, i, none⟩ = some v1 ∧ B < w.heap.size) (hb : Below w.heap.size w w') :
    w'.cell? ⟨B, i, none⟩ = some v1 ∧ B < w'.heap.size :=
  ⟨by rw [hb.cell (p := ⟨B, i, none⟩) h.2]; exact h.1, Nat.lt_of_lt_of_le h.2 hb.size⟩
theorem one_cell_only {w w' : World} {B i : Nat} {v1 : Value} {F : Nat → Prop} (hf : ¬ F B) (h : w.cell? ⟨B, i, none⟩ = some v1 ∧ B < w.heap.size) (hb : Only F w w') :
    w'.cell? ⟨B, i, none⟩ = some v1 ∧ B < w'.heap.size :=
  ⟨by rw [hb.cell (p := ⟨B, i, none⟩) h.2 hf]; exact h.1, Nat.lt_of_lt_of_le h.2 hb.size⟩

end Go.Proofs.Ytkahohgbcnchiaa
