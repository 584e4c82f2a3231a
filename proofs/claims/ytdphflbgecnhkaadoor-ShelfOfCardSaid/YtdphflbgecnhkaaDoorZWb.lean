/- The contracts of the document's own sums and order (bit by bit) and of layer 1's order. Numbers below 2^128. -/
import Derived.Test.YtdphflbgecnhkaaDoorZWa
namespace Go.Proofs.YtdphflbgecnhkaaDoor
open Go.RowKit Go.Sort Wm

/-- Two numbers that a call has boxed. -/
structure Two (w wr : World) (a b : Nat) : Prop where
  c0 : wr.cell? ⟨w.heap.size, 0, none⟩ = some (.int .u64 ((hiN a : Nat) : Int))
  c1 : wr.cell? ⟨w.heap.size, 1, none⟩ = some (.int .u64 ((loN a : Nat) : Int))
  c2 : wr.cell? ⟨w.heap.size + 1, 0, none⟩ = some (.int .u64 ((hiN b : Nat) : Int))
  c3 : wr.cell? ⟨w.heap.size + 1, 1, none⟩ = some (.int .u64 ((loN b : Nat) : Int))
  size : w.heap.size + 2 ≤ wr.heap.size
  below : Below w.heap.size w wr
theorem Two.later {w wr w2 : World} {a b : Nat} (h : Two w wr a b) (hb : Below wr.heap.size wr w2) : Two w w2 a b :=
  have hs := h.size
  ⟨(hb.cell (by show w.heap.size < _; omega)).trans h.c0, (hb.cell (by show w.heap.size < _; omega)).trans h.c1, (hb.cell (by show w.heap.size + 1 < _; omega)).trans h.c2, (hb.cell (by show w.heap.size + 1 < _; omega)).trans h.c3,
    Nat.le_trans h.size hb.size, h.below.trans (hb.mono (by omega))⟩

/-- Two boxed numbers, a result's cell and a number that is gathered. -/
structure Gath (w wr : World) (g a b o : Nat) : Prop where
  two : Two w wr a b
  r0 : ∃ v, wr.cell? ⟨w.heap.size + 1 + 1, 0, none⟩ = some v
  r1 : ∃ v, wr.cell? ⟨w.heap.size + 1 + 1, 1, none⟩ = some v
  f0 : wr.frozen? ⟨w.heap.size + 1 + 1, 0, none⟩ = false
  f1 : wr.frozen? ⟨w.heap.size + 1 + 1, 1, none⟩ = false
  o0 : wr.cell? ⟨g, 0, none⟩ = some (.int .u64 ((hiN o : Nat) : Int))
  o1 : wr.cell? ⟨g, 1, none⟩ = some (.int .u64 ((loN o : Nat) : Int))
  g0 : wr.frozen? ⟨g, 0, none⟩ = false
  g1 : wr.frozen? ⟨g, 1, none⟩ = false
  lt : w.heap.size + 1 + 1 < g
  size : g < wr.heap.size
theorem Gath.later {w wr w2 : World} {g a b o : Nat} (h : Gath w wr g a b o) (hb : Below wr.heap.size wr w2) : Gath w w2 g a b o :=
  have hs := h.size
  have hl := h.lt
  have c2 : ∀ j, w2.cell? ⟨w.heap.size + 1 + 1, j, none⟩ = wr.cell? ⟨w.heap.size + 1 + 1, j, none⟩ := fun j => hb.cell (by show w.heap.size + 1 + 1 < _; omega)
  have c3 : ∀ j, w2.cell? ⟨g, j, none⟩ = wr.cell? ⟨g, j, none⟩ := fun j => hb.cell (by show g < _; omega)
  have f2 : ∀ j, w2.frozen? ⟨w.heap.size + 1 + 1, j, none⟩ = wr.frozen? ⟨w.heap.size + 1 + 1, j, none⟩ := fun j => hb.frozen (by show w.heap.size + 1 + 1 < _; omega)
  have f3 : ∀ j, w2.frozen? ⟨g, j, none⟩ = wr.frozen? ⟨g, j, none⟩ := fun j => hb.frozen (by show g < _; omega)
  ⟨h.two.later hb, by rw [c2]; exact h.r0, by rw [c2]; exact h.r1, by rw [f2]; exact h.f0, by rw [f2]; exact h.f1, by rw [c3]; exact h.o0, by rw [c3]; exact h.o1, by rw [f3]; exact h.g0, by rw [f3]; exact h.g1, h.lt, Nat.lt_of_lt_of_le h.size hb.size⟩

theorem cell_put0 {W : World} {b : Nat} {x y u v : Value} (h : W.cell? ⟨b, 0, none⟩ = some u) (_k : W.cell? ⟨b, 1, none⟩ = some v) : ((W.setCell ⟨b, 0, none⟩ x).setCell ⟨b, 1, none⟩ y).cell? ⟨b, 0, none⟩ = some x := by
  rw [World.cell?_setCell_other (h := by simp), World.cell?_setCell_same (h := h)]
theorem cell_put1 {W : World} {b : Nat} {x y u v : Value} (_h : W.cell? ⟨b, 0, none⟩ = some u) (k : W.cell? ⟨b, 1, none⟩ = some v) : ((W.setCell ⟨b, 0, none⟩ x).setCell ⟨b, 1, none⟩ y).cell? ⟨b, 1, none⟩ = some y := by
  rw [World.cell?_setCell_same (u := v)]
  rw [World.cell?_setCell_other (h := by simp)]; exact k
theorem cell_put_far {W : World} {b c j : Nat} {x y : Value} (h : c ≠ b) : ((W.setCell ⟨b, 0, none⟩ x).setCell ⟨b, 1, none⟩ y).cell? ⟨c, j, none⟩ = W.cell? ⟨c, j, none⟩ := by
  rw [World.cell?_setCell_other, World.cell?_setCell_other]
  all_goals (intro e; injection e with e1 _ _; exact h e1.symm)
theorem Two.put {w wr : World} {a b : Nat} (h : Two w wr a b) {c : Nat} (x y : Value) (hc : w.heap.size + 1 < c) : Two w ((wr.setCell ⟨c, 0, none⟩ x).setCell ⟨c, 1, none⟩ y) a b :=
  ⟨by rw [cell_put_far (by omega)]; exact h.c0, by rw [cell_put_far (by omega)]; exact h.c1, by rw [cell_put_far (by omega)]; exact h.c2, by rw [cell_put_far (by omega)]; exact h.c3, by simpa using h.size,
    (h.below.setCell (by show _ ≤ c; omega) _).setCell (by show _ ≤ c; omega) _⟩
theorem Gath.put {w wr : World} {g a b o o' : Nat} (h : Gath w wr g a b o) : Gath w ((wr.setCell ⟨g, 0, none⟩ (.int .u64 ((hiN o' : Nat) : Int))).setCell ⟨g, 1, none⟩ (.int .u64 ((loN o' : Nat) : Int))) g a b o' :=
  have hl := h.lt
  ⟨h.two.put _ _ (by omega), by rw [cell_put_far (by omega)]; exact h.r0, by rw [cell_put_far (by omega)]; exact h.r1, by simpa using h.f0, by simpa using h.f1, cell_put0 h.o0 h.o1, cell_put1 h.o0 h.o1, by simpa using h.g0, by simpa using h.g1, h.lt, by simpa using h.size⟩
theorem intV {a b : Int} (h : a = b) : Value.int .i64 a = .int .i64 b := by rw [h]

/-- Two boxed numbers and a result's cell. -/
structure Res (w wr : World) (a b : Nat) : Prop where
  two : Two w wr a b
  r0 : ∃ v, wr.cell? ⟨w.heap.size + 1 + 1, 0, none⟩ = some v
  r1 : ∃ v, wr.cell? ⟨w.heap.size + 1 + 1, 1, none⟩ = some v
  f0 : wr.frozen? ⟨w.heap.size + 1 + 1, 0, none⟩ = false
  f1 : wr.frozen? ⟨w.heap.size + 1 + 1, 1, none⟩ = false
  size : w.heap.size + 1 + 1 < wr.heap.size
abbrev W3 (w : World) (a b : Nat) : World := ((w.alloc (.cells #[.int .u64 ((hiN a : Nat) : Int), .int .u64 ((loN a : Nat) : Int)] 27)).alloc (.cells #[.int .u64 ((hiN b : Nat) : Int), .int .u64 ((loN b : Nat) : Int)] 27)).alloc (.cells #[.int .u64 0, .int .u64 0] 27)
theorem Res.later {w wr w2 : World} {a b : Nat} (h : Res w wr a b) (hb : Below wr.heap.size wr w2) : Res w w2 a b :=
  have hs := h.size
  have c2 : ∀ j, w2.cell? ⟨w.heap.size + 1 + 1, j, none⟩ = wr.cell? ⟨w.heap.size + 1 + 1, j, none⟩ := fun j => hb.cell (by show w.heap.size + 1 + 1 < _; omega)
  have f2 : ∀ j, w2.frozen? ⟨w.heap.size + 1 + 1, j, none⟩ = wr.frozen? ⟨w.heap.size + 1 + 1, j, none⟩ := fun j => hb.frozen (by show w.heap.size + 1 + 1 < _; omega)
  ⟨h.two.later hb, by rw [c2]; exact h.r0, by rw [c2]; exact h.r1, by rw [f2]; exact h.f0, by rw [f2]; exact h.f1, Nat.lt_of_lt_of_le h.size hb.size⟩
theorem bl_put {w wr : World} {c : Nat} {x y : Value} (h : Below w.heap.size w wr) (hc : w.heap.size ≤ c) : Below w.heap.size w ((wr.setCell ⟨c, 0, none⟩ x).setCell ⟨c, 1, none⟩ y) :=
  (h.setCell (by show _ ≤ c; omega) _).setCell (by show _ ≤ c; omega) _

/-- One boxed number and a result's cell behind it. -/
structure One (w wr : World) (n : Nat) : Prop where
  c0 : wr.cell? ⟨w.heap.size, 0, none⟩ = some (.int .u64 ((hiN n : Nat) : Int))
  c1 : wr.cell? ⟨w.heap.size, 1, none⟩ = some (.int .u64 ((loN n : Nat) : Int))
  r0 : ∃ v, wr.cell? ⟨w.heap.size + 1, 0, none⟩ = some v
  r1 : ∃ v, wr.cell? ⟨w.heap.size + 1, 1, none⟩ = some v
  f0 : wr.frozen? ⟨w.heap.size + 1, 0, none⟩ = false
  f1 : wr.frozen? ⟨w.heap.size + 1, 1, none⟩ = false
  size : w.heap.size + 1 < wr.heap.size
  below : Below w.heap.size w wr
abbrev W2 (w : World) (n : Nat) : World := (w.alloc (.cells #[.int .u64 ((hiN n : Nat) : Int), .int .u64 ((loN n : Nat) : Int)] 27)).alloc (.cells #[.int .u64 0, .int .u64 0] 27)
theorem One.later {w wr w2 : World} {n : Nat} (h : One w wr n) (hb : Below wr.heap.size wr w2) : One w w2 n :=
  have hs := h.size
  have c1 : ∀ j, w2.cell? ⟨w.heap.size, j, none⟩ = wr.cell? ⟨w.heap.size, j, none⟩ := fun j => hb.cell (by show w.heap.size < _; omega)
  have c2 : ∀ j, w2.cell? ⟨w.heap.size + 1, j, none⟩ = wr.cell? ⟨w.heap.size + 1, j, none⟩ := fun j => hb.cell (by show w.heap.size + 1 < _; omega)
  have f2 : ∀ j, w2.frozen? ⟨w.heap.size + 1, j, none⟩ = wr.frozen? ⟨w.heap.size + 1, j, none⟩ := fun j => hb.frozen (by show w.heap.size + 1 < _; omega)
  ⟨by rw [c1]; exact h.c0, by rw [c1]; exact h.c1, by rw [c2]; exact h.r0, by rw [c2]; exact h.r1, by rw [f2]; exact h.f0, by rw [f2]; exact h.f1, Nat.lt_of_lt_of_le h.size hb.size, h.below.trans (hb.mono (by omega))⟩
end Go.Proofs.YtdphflbgecnhkaaDoor
