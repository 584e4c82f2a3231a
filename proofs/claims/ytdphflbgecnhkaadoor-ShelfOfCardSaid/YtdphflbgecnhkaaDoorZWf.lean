/- Sum of a list. -/
import Derived.Test.YtdphflbgecnhkaaDoorZAa
namespace Go.Proofs.YtdphflbgecnhkaaDoor
open Go.RowKit Go.Sort Wm

/-- A row of numbers in memory. -/
def RowN (w : World) (b : Nat) (ns : List Nat) : Prop := ∀ j, j < ns.length → w.cell? ⟨b, j * 2, none⟩ = some (.int .u64 ((hiN (ns.getD j 0) : Nat) : Int)) ∧ w.cell? ⟨b, j * 2 + 1, none⟩ = some (.int .u64 ((loN (ns.getD j 0) : Nat) : Int))
theorem RowN.later {w w2 : World} {b : Nat} {ns : List Nat} (h : RowN w b ns) (hb : Below w.heap.size w w2) (hlt : b < w.heap.size) : RowN w2 b ns := fun j hj =>
  ⟨by rw [hb.cell (by exact hlt)]; exact (h j hj).1, by rw [hb.cell (by exact hlt)]; exact (h j hj).2⟩

/-- A result's cell, and the sum so far. -/
structure Acc (w wr : World) (b : Nat) (ns : List Nat) (acc : Nat) : Prop where
  row : RowN wr b ns
  r0 : ∃ v, wr.cell? ⟨w.heap.size, 0, none⟩ = some v
  r1 : ∃ v, wr.cell? ⟨w.heap.size, 1, none⟩ = some v
  f0 : wr.frozen? ⟨w.heap.size, 0, none⟩ = false
  f1 : wr.frozen? ⟨w.heap.size, 1, none⟩ = false
  a0 : wr.cell? ⟨w.heap.size + 1, 0, none⟩ = some (.int .u64 ((hiN acc : Nat) : Int))
  a1 : wr.cell? ⟨w.heap.size + 1, 1, none⟩ = some (.int .u64 ((loN acc : Nat) : Int))
  g0 : wr.frozen? ⟨w.heap.size + 1, 0, none⟩ = false
  g1 : wr.frozen? ⟨w.heap.size + 1, 1, none⟩ = false
  lt : b < w.heap.size
  size : w.heap.size + 1 < wr.heap.size
  below : Below w.heap.size w wr
theorem Acc.later {w wr w2 : World} {b acc : Nat} {ns : List Nat} (h : Acc w wr b ns acc) (hb : Below wr.heap.size wr w2) : Acc w w2 b ns acc :=
  have hs := h.size
  have hl := h.lt
  have c1 : ∀ j, w2.cell? ⟨w.heap.size, j, none⟩ = wr.cell? ⟨w.heap.size, j, none⟩ := fun j => hb.cell (by show w.heap.size < _; omega)
  have f1 : ∀ j, w2.frozen? ⟨w.heap.size, j, none⟩ = wr.frozen? ⟨w.heap.size, j, none⟩ := fun j => hb.frozen (by show w.heap.size < _; omega)
  have c2 : ∀ j, w2.cell? ⟨w.heap.size + 1, j, none⟩ = wr.cell? ⟨w.heap.size + 1, j, none⟩ := fun j => hb.cell (by show w.heap.size + 1 < _; omega)
  have f2 : ∀ j, w2.frozen? ⟨w.heap.size + 1, j, none⟩ = wr.frozen? ⟨w.heap.size + 1, j, none⟩ := fun j => hb.frozen (by show w.heap.size + 1 < _; omega)
  ⟨h.row.later hb (by omega), by rw [c1]; exact h.r0, by rw [c1]; exact h.r1, by rw [f1]; exact h.f0, by rw [f1]; exact h.f1, by rw [c2]; exact h.a0, by rw [c2]; exact h.a1, by rw [f2]; exact h.g0, by rw [f2]; exact h.g1, h.lt, Nat.lt_of_lt_of_le h.size hb.size, h.below.trans (hb.mono (by omega))⟩
theorem Acc.put {w wr : World} {b acc y : Nat} {ns : List Nat} (h : Acc w wr b ns acc) : Acc w ((wr.setCell ⟨w.heap.size + 1, 0, none⟩ (.int .u64 ((hiN y : Nat) : Int))).setCell ⟨w.heap.size + 1, 1, none⟩ (.int .u64 ((loN y : Nat) : Int))) b ns y := by
  have hl := h.lt
  have far : ∀ c j, c ≠ w.heap.size + 1 → ((wr.setCell ⟨w.heap.size + 1, 0, none⟩ (.int .u64 ((hiN y : Nat) : Int))).setCell ⟨w.heap.size + 1, 1, none⟩ (.int .u64 ((loN y : Nat) : Int))).cell? ⟨c, j, none⟩ = wr.cell? ⟨c, j, none⟩ := fun c j hc => cell_put_far hc
  exact ⟨fun j hj => ⟨by rw [far _ _ (by omega)]; exact (h.row j hj).1, by rw [far _ _ (by omega)]; exact (h.row j hj).2⟩, by rw [far _ _ (by omega)]; exact h.r0, by rw [far _ _ (by omega)]; exact h.r1, by simpa using h.f0, by simpa using h.f1, cell_put0 h.a0 h.a1, cell_put1 h.a0 h.a1, by simpa using h.g0, by simpa using h.g1, h.lt, by simpa using h.size, bl_put h.below (by omega)⟩

end Go.Proofs.YtdphflbgecnhkaaDoor
