/- The contracts of the document's own sums and order (bit by bit) and of layer 1's order. Numbers below 2^128. -/
/- Show: decimal digits. -/
/- A list of cells that are known in a world, carried along. No program. -/
/- Sum of a list. -/
/- Two numbers of two words compared by '==' and '!=': as the numbers they are. No condition. -/
import Derived.Test.YtfdanlfiaoedfaaZAv
import Derived.Laws.IdiomStrings
import Derived.Lib.Mul64
import Derived.Deep.DeepCutAuto
import Derived.IntWalk
import Derived.Shelf.Bits.Mul64
import Derived.WalkKit
import Derived.RegionTactic
import Derived.Deep.RegionWith
import Derived.Deep.RegionHeld3
namespace Go.Proofs.Ytfdanlfiaoedfaa
open Go.RowKit Go.Sort Wm

/-- Two numbers that a call has boxed. -/
structure Two (w wr : World) (a b : Nat) : Prop where
  c0 : wr.cell? ⟨w.heap.size, 0, none⟩ = some (.int .u64 ((hiN a : Nat) : Int))
  c1 : wr.cell? ⟨w.heap.size, 1, none⟩ = some (.int .u64 ((loN a : Nat) : Int))
  c2 : wr.cell? ⟨w.heap.size + 1, 0, none⟩ = some (.int .u64 ((hiN b : Nat) : Int))
  c3 : wr.cell? ⟨w.heap.size + 1, 1, none⟩ = some (.int .u64 ((loN b : Nat) : Int))
  size : w.heap.size + 2 ≤ wr.heap.size
  below : Below w.heap.size w wr
theorem Two.later {w wr w2 : World} {a b : Nat} (h : Two w wr a b) (hb : Below wr.heap.size wr w2) : Two w w2 a b :=
  have hs := h.size
  ⟨(hb.cell (by show w.heap.size < _; omega)).trans h.c0, (hb.cell (by show w.heap.size < _; omega)).trans h.c1, (hb.cell (by show w.heap.size + 1 < _; omega)).trans h.c2, (hb.cell (by show w.heap.size + 1 < _; omega)).trans h.c3,
    Nat.le_trans h.size hb.size, h.below.trans (hb.mono (by omega))⟩

/-- Two boxed numbers, a result's cell and a number that is gathered. -/
structure Gath (w wr : World) (g a b o : Nat) : Prop where
  two : Two w wr a b
  r0 : ∃ v, wr.cell? ⟨w.heap.size + 1 + 1, 0, none⟩ = some v
  r1 : ∃ v, wr.cell? ⟨w.heap.size + 1 + 1, 1, none⟩ = some v
  f0 : wr.frozen? ⟨w.heap.size + 1 + 1, 0, none⟩ = false
  f1 : wr.frozen? ⟨w.heap.size + 1 + 1, 1, none⟩ = false
  o0 : wr.cell? ⟨g, 0, none⟩ = some (.int .u64 ((hiN o : Nat) : Int))
  o1 : wr.cell? ⟨g, 1, none⟩ = some (.int .u64 ((loN o : Nat) : Int))
  g0 : wr.frozen? ⟨g, 0, none⟩ = false
  g1 : wr.frozen? ⟨g, 1, none⟩ = false
  lt : w.heap.size + 1 + 1 < g
  size : g < wr.heap.size
theorem Gath.later {w wr w2 : World} {g a b o : Nat} (h : Gath w wr g a b o) (hb : Below wr.heap.size wr w2) : Gath w w2 g a b o :=
  have hs := h.size
  have hl := h.lt
  have c2 : ∀ j, w2.cell? ⟨w.heap.size + 1 + 1, j, none⟩ = wr.cell? ⟨w.heap.size + 1 + 1, j, none⟩ := fun j => hb.cell (by show w.heap.size + 1 + 1 < _; omega)
  have c3 : ∀ j, w2.cell? ⟨g, j, none⟩ = wr.cell? ⟨g, j, none⟩ := fun j => hb.cell (by show g < _; omega)
  have f2 : ∀ j, w2.frozen? ⟨w.heap.size + 1 + 1, j, none⟩ = wr.frozen? ⟨w.heap.size + 1 + 1, j, none⟩ := fun j => hb.frozen (by show w.heap.size + 1 + 1 < _; omega)
  have f3 : ∀ j, w2.frozen? ⟨g, j, none⟩ = wr.frozen? ⟨g, j, none⟩ := fun j => hb.frozen (by show g < _; omega)
  ⟨h.two.later hb, by rw [c2]; exact h.r0, by rw [c2]; exact h.r1, by rw [f2]; exact h.f0, by rw [f2]; exact h.f1, by rw [c3]; exact h.o0, by rw [c3]; exact h.o1, by rw [f3]; exact h.g0, by rw [f3]; exact h.g1, h.lt, Nat.lt_of_lt_of_le h.size hb.size⟩

theorem cell_put0 {W : World} {b : Nat} {x y u v : Value} (h : W.cell? ⟨b, 0, none⟩ = some u) (_k : W.cell? ⟨b, 1, none⟩ = some v) : ((W.setCell ⟨b, 0, none⟩ x).setCell ⟨b, 1, none⟩ y).cell? ⟨b, 0, none⟩ = some x := by
  rw [World.cell?_setCell_other (h := by simp), World.cell?_setCell_same (h := h)]
theorem cell_put1 {W : World} {b : Nat} {x y u v : Value} (_h : W.cell? ⟨b, 0, none⟩ = some u) (k : W.cell? ⟨b, 1, none⟩ = some v) : ((W.setCell ⟨b, 0, none⟩ x).setCell ⟨b, 1, none⟩ y).cell? ⟨b, 1, none⟩ = some y := by
  rw [World.cell?_setCell_same (u := v)]
  rw [World.cell?_setCell_other (h := by simp)]; exact k
theorem cell_put_far {W : World} {b c j : Nat} {x y : Value} (h : c ≠ b) : ((W.setCell ⟨b, 0, none⟩ x).setCell ⟨b, 1, none⟩ y).cell? ⟨c, j, none⟩ = W.cell? ⟨c, j, none⟩ := by
  rw [World.cell?_setCell_other, World.cell?_setCell_other]
  all_goals (intro e; injection e with e1 _ _; exact h e1.symm)
theorem Two.put {w wr : World} {a b : Nat} (h : Two w wr a b) {c : Nat} (x y : Value) (hc : w.heap.size + 1 < c) : Two w ((wr.setCell ⟨c, 0, none⟩ x).setCell ⟨c, 1, none⟩ y) a b :=
  ⟨by rw [cell_put_far (by omega)]; exact h.c0, by rw [cell_put_far (by omega)]; exact h.c1, by rw [cell_put_far (by omega)]; exact h.c2, by rw [cell_put_far (by omega)]; exact h.c3, by simpa using h.size,
    (h.below.setCell (by show _ ≤ c; omega) _).setCell (by show _ ≤ c; omega) _⟩
theorem Gath.put {w wr : World} {g a b o o' : Nat} (h : Gath w wr g a b o) : Gath w ((wr.setCell ⟨g, 0, none⟩ (.int .u64 ((hiN o' : Nat) : Int))).setCell ⟨g, 1, none⟩ (.int .u64 ((loN o' : Nat) : Int))) g a b o' :=
  have hl := h.lt
  ⟨h.two.put _ _ (by omega), by rw [cell_put_far (by omega)]; exact h.r0, by rw [cell_put_far (by omega)]; exact h.r1, by simpa using h.f0, by simpa using h.f1, cell_put0 h.o0 h.o1, cell_put1 h.o0 h.o1, by simpa using h.g0, by simpa using h.g1, h.lt, by simpa using h.size⟩
theorem intV {a b : Int} (h : a = b) : Value.int .i64 a = .int .i64 b := by rw [h]

/-- Two boxed numbers and a result's cell. -/
structure Res (w wr : World) (a b : Nat) : Prop where
  two : Two w wr a b
  r0 : ∃ v, wr.cell? ⟨w.heap.size + 1 + 1, 0, none⟩ = some v
  r1 : ∃ v, wr.cell? ⟨w.heap.size + 1 + 1, 1, none⟩ = some v
  f0 : wr.frozen? ⟨w.heap.size + 1 + 1, 0, none⟩ = false
  f1 : wr.frozen? ⟨w.heap.size + 1 + 1, 1, none⟩ = false
  size : w.heap.size + 1 + 1 < wr.heap.size
abbrev W3 (w : World) (a b : Nat) : World := ((w.alloc (.cells #[.int .u64 ((hiN a : Nat) : Int), .int .u64 ((loN a : Nat) : Int)] 27)).alloc (.cells #[.int .u64 ((hiN b : Nat) : Int), .int .u64 ((loN b : Nat) : Int)] 27)).alloc (.cells #[.int .u64 0, .int .u64 0] 27)
theorem Res.later {w wr w2 : World} {a b : Nat} (h : Res w wr a b) (hb : Below wr.heap.size wr w2) : Res w w2 a b :=
  have hs := h.size
  have c2 : ∀ j, w2.cell? ⟨w.heap.size + 1 + 1, j, none⟩ = wr.cell? ⟨w.heap.size + 1 + 1, j, none⟩ := fun j => hb.cell (by show w.heap.size + 1 + 1 < _; omega)
  have f2 : ∀ j, w2.frozen? ⟨w.heap.size + 1 + 1, j, none⟩ = wr.frozen? ⟨w.heap.size + 1 + 1, j, none⟩ := fun j => hb.frozen (by show w.heap.size + 1 + 1 < _; omega)
  ⟨h.two.later hb, by rw [c2]; exact h.r0, by rw [c2]; exact h.r1, by rw [f2]; exact h.f0, by rw [f2]; exact h.f1, Nat.lt_of_lt_of_le h.size hb.size⟩
theorem bl_put {w wr : World} {c : Nat} {x y : Value} (h : Below w.heap.size w wr) (hc : w.heap.size ≤ c) : Below w.heap.size w ((wr.setCell ⟨c, 0, none⟩ x).setCell ⟨c, 1, none⟩ y) :=
  (h.setCell (by show _ ≤ c; omega) _).setCell (by show _ ≤ c; omega) _

/-- One boxed number and a result's cell behind it. -/
structure One (w wr : World) (n : Nat) : Prop where
  c0 : wr.cell? ⟨w.heap.size, 0, none⟩ = some (.int .u64 ((hiN n : Nat) : Int))
  c1 : wr.cell? ⟨w.heap.size, 1, none⟩ = some (.int .u64 ((loN n : Nat) : Int))
  r0 : ∃ v, wr.cell? ⟨w.heap.size + 1, 0, none⟩ = some v
  r1 : ∃ v, wr.cell? ⟨w.heap.size + 1, 1, none⟩ = some v
  f0 : wr.frozen? ⟨w.heap.size + 1, 0, none⟩ = false
  f1 : wr.frozen? ⟨w.heap.size + 1, 1, none⟩ = false
  size : w.heap.size + 1 < wr.heap.size
  below : Below w.heap.size w wr
abbrev W2 (w : World) (n : Nat) : World := (w.alloc (.cells #[.int .u64 ((hiN n : Nat) : Int), .int .u64 ((loN n : Nat) : Int)] 27)).alloc (.cells #[.int .u64 0, .int .u64 0] 27)
theorem One.later {w wr w2 : World} {n : Nat} (h : One w wr n) (hb : Below wr.heap.size wr w2) : One w w2 n :=
  have hs := h.size
  have c1 : ∀ j, w2.cell? ⟨w.heap.size, j, none⟩ = wr.cell? ⟨w.heap.size, j, none⟩ := fun j => hb.cell (by show w.heap.size < _; omega)
  have c2 : ∀ j, w2.cell? ⟨w.heap.size + 1, j, none⟩ = wr.cell? ⟨w.heap.size + 1, j, none⟩ := fun j => hb.cell (by show w.heap.size + 1 < _; omega)
  have f2 : ∀ j, w2.frozen? ⟨w.heap.size + 1, j, none⟩ = wr.frozen? ⟨w.heap.size + 1, j, none⟩ := fun j => hb.frozen (by show w.heap.size + 1 < _; omega)
  ⟨by rw [c1]; exact h.c0, by rw [c1]; exact h.c1, by rw [c2]; exact h.r0, by rw [c2]; exact h.r1, by rw [f2]; exact h.f0, by rw [f2]; exact h.f1, Nat.lt_of_lt_of_le h.size hb.size, h.below.trans (hb.mono (by omega))⟩
end Go.Proofs.Ytfdanlfiaoedfaa
namespace Go.Proofs.Ytfdanlfiaoedfaa
open Go.RowKit Go.Sort Wm

/-- What lies in memory while the digits are gathered: the number that is left, and the digits so far. -/
structure Sh (w wr : World) (n x k : Nat) : Prop where
  c0 : wr.cell? ⟨w.heap.size, 0, none⟩ = some (.int .u64 ((hiN x : Nat) : Int))
  c1 : wr.cell? ⟨w.heap.size, 1, none⟩ = some (.int .u64 ((loN x : Nat) : Int))
  g0 : wr.frozen? ⟨w.heap.size, 0, none⟩ = false
  g1 : wr.frozen? ⟨w.heap.size, 1, none⟩ = false
  old : ∀ j, j < 39 → ∃ v, wr.cell? ⟨w.heap.size + 1, j, none⟩ = some v
  fz : ∀ j, wr.frozen? ⟨w.heap.size + 1, j, none⟩ = false
  dig : ∀ j (h : j < (decN k n).length), wr.cell? ⟨w.heap.size + 1, 39 - k + j, none⟩ = some (.int .u8 (((decN k n)[j].toNat : Nat) : Int))
  size : w.heap.size + 1 < wr.heap.size
  below : Below w.heap.size w wr
theorem Sh.later {w wr w2 : World} {n x k : Nat} (h : Sh w wr n x k) (hb : Below wr.heap.size wr w2) : Sh w w2 n x k :=
  have hs := h.size
  have c1 : ∀ j, w2.cell? ⟨w.heap.size, j, none⟩ = wr.cell? ⟨w.heap.size, j, none⟩ := fun j => hb.cell (by show w.heap.size < _; omega)
  have f1 : ∀ j, w2.frozen? ⟨w.heap.size, j, none⟩ = wr.frozen? ⟨w.heap.size, j, none⟩ := fun j => hb.frozen (by show w.heap.size < _; omega)
  have c2 : ∀ j, w2.cell? ⟨w.heap.size + 1, j, none⟩ = wr.cell? ⟨w.heap.size + 1, j, none⟩ := fun j => hb.cell (by show w.heap.size + 1 < _; omega)
  have f2 : ∀ j, w2.frozen? ⟨w.heap.size + 1, j, none⟩ = wr.frozen? ⟨w.heap.size + 1, j, none⟩ := fun j => hb.frozen (by show w.heap.size + 1 < _; omega)
  ⟨by rw [c1]; exact h.c0, by rw [c1]; exact h.c1, by rw [f1]; exact h.g0, by rw [f1]; exact h.g1, fun j hj => by rw [c2]; exact h.old j hj, fun j => by rw [f2]; exact h.fz j, fun j hj => by rw [c2]; exact h.dig j hj, Nat.lt_of_lt_of_le h.size hb.size, h.below.trans (hb.mono (by omega))⟩

/-- The number that is left takes the place of the one ahead of it. -/
theorem Sh.rest {w wr : World} {n x y k : Nat} (h : Sh w wr n x k) : Sh w ((wr.setCell ⟨w.heap.size, 0, none⟩ (.int .u64 ((hiN y : Nat) : Int))).setCell ⟨w.heap.size, 1, none⟩ (.int .u64 ((loN y : Nat) : Int))) n y k := by
  have far : ∀ j, ((wr.setCell ⟨w.heap.size, 0, none⟩ (.int .u64 ((hiN y : Nat) : Int))).setCell ⟨w.heap.size, 1, none⟩ (.int .u64 ((loN y : Nat) : Int))).cell? ⟨w.heap.size + 1, j, none⟩ = wr.cell? ⟨w.heap.size + 1, j, none⟩ := fun j => cell_put_far (by omega)
  exact ⟨cell_put0 h.c0 h.c1, cell_put1 h.c0 h.c1, by simpa using h.g0, by simpa using h.g1, fun j hj => by rw [far]; exact h.old j hj, fun j => by simpa using h.fz j, fun j hj => by rw [far]; exact h.dig j hj, by simpa using h.size, bl_put h.below (Nat.le_refl _)⟩
/-- The digits as a string. -/
theorem Sh.text {w wr : World} {n x k p : Nat} (h : Sh w wr n x k) (hp : p + k = 39) :
    (convert 55 9 (.slice (some ⟨w.heap.size + 1, p, none⟩) (39 - p) (39 - p))).run Try.prog wr = .ok (.string ⟨(decN k n).toArray⟩) wr := by
  have e : 39 - p = (decN k n).length := by rw [decN_length]; omega
  have := run_convert_bytes_back (P := Try.prog) wr 55 9 5 ⟨w.heap.size + 1, p, none⟩ (39 - p) (decN k n) Try.underlying55 Try.underlying5 Try.underlying9 (fun j hj => by
    have := h.dig j hj
    rw [show 39 - k = p by omega] at this
    simp only [Addr.add]
    split
    · rename_i h0; subst h0; simpa using this
    · exact this)
  rw [← e] at this
  exact this

end Go.Proofs.Ytfdanlfiaoedfaa
namespace Go.Proofs.Ytfdanlfiaoedfaa
open Go.RowKit

/-- Known cells: block, offset, value. -/
def Has (w : World) : List (Nat × Nat × Value) → Prop
  | [] => True
  | f :: r => (w.cell? ⟨f.1, f.2.1, none⟩ = some f.2.2 ∧ f.1 < w.heap.size) ∧ Has w r
theorem Has.later {w w2 : World} (hb : Below w.heap.size w w2) : ∀ {fs : List (Nat × Nat × Value)}, Has w fs → Has w2 fs
  | [], _ => trivial
  | _ :: _, h => ⟨⟨by rw [hb.cell (by exact h.1.2)]; exact h.1.1, Nat.lt_of_lt_of_le h.1.2 hb.size⟩, Has.later hb h.2⟩
theorem Has.alloc {w : World} {fs : List (Nat × Nat × Value)} (h : Has w fs) (o : Obj) : Has (w.alloc o) fs := h.later ((Below.refl _ _).alloc (Nat.le_refl _) o)
theorem Has.new2 {w : World} {fs : List (Nat × Nat × Value)} (h : Has w fs) (x y : Value) (t : TypeId) : Has (w.alloc (.cells #[x, y] t)) ((w.heap.size, 0, x) :: (w.heap.size, 1, y) :: fs) :=
  ⟨⟨by simp [go_sem], by simp⟩, ⟨by simp [go_sem], by simp⟩, h.alloc _⟩
end Go.Proofs.Ytfdanlfiaoedfaa
namespace Go.Proofs.Ytfdanlfiaoedfaa
open Go.RowKit Go.Sort Wm

/-- A row of numbers in memory. -/
def RowN (w : World) (b : Nat) (ns : List Nat) : Prop := ∀ j, j < ns.length → w.cell? ⟨b, j * 2, none⟩ = some (.int .u64 ((hiN (ns.getD j 0) : Nat) : Int)) ∧ w.cell? ⟨b, j * 2 + 1, none⟩ = some (.int .u64 ((loN (ns.getD j 0) : Nat) : Int))
theorem RowN.later {w w2 : World} {b : Nat} {ns : List Nat} (h : RowN w b ns) (hb : Below w.heap.size w w2) (hlt : b < w.heap.size) : RowN w2 b ns := fun j hj =>
  ⟨by rw [hb.cell (by exact hlt)]; exact (h j hj).1, by rw [hb.cell (by exact hlt)]; exact (h j hj).2⟩

/-- A result's cell, and the sum so far. -/
structure Acc (w wr : World) (b : Nat) (ns : List Nat) (acc : Nat) : Prop where
  row : RowN wr b ns
  r0 : ∃ v, wr.cell? ⟨w.heap.size, 0, none⟩ = some v
  r1 : ∃ v, wr.cell? ⟨w.heap.size, 1, none⟩ = some v
  f0 : wr.frozen? ⟨w.heap.size, 0, none⟩ = false
  f1 : wr.frozen? ⟨w.heap.size, 1, none⟩ = false
  a0 : wr.cell? ⟨w.heap.size + 1, 0, none⟩ = some (.int .u64 ((hiN acc : Nat) : Int))
  a1 : wr.cell? ⟨w.heap.size + 1, 1, none⟩ = some (.int .u64 ((loN acc : Nat) : Int))
  g0 : wr.frozen? ⟨w.heap.size + 1, 0, none⟩ = false
  g1 : wr.frozen? ⟨w.heap.size + 1, 1, none⟩ = false
  lt : b < w.heap.size
  size : w.heap.size + 1 < wr.heap.size
  below : Below w.heap.size w wr
theorem Acc.later {w wr w2 : World} {b acc : Nat} {ns : List Nat} (h : Acc w wr b ns acc) (hb : Below wr.heap.size wr w2) : Acc w w2 b ns acc :=
  have hs := h.size
  have hl := h.lt
  have c1 : ∀ j, w2.cell? ⟨w.heap.size, j, none⟩ = wr.cell? ⟨w.heap.size, j, none⟩ := fun j => hb.cell (by show w.heap.size < _; omega)
  have f1 : ∀ j, w2.frozen? ⟨w.heap.size, j, none⟩ = wr.frozen? ⟨w.heap.size, j, none⟩ := fun j => hb.frozen (by show w.heap.size < _; omega)
  have c2 : ∀ j, w2.cell? ⟨w.heap.size + 1, j, none⟩ = wr.cell? ⟨w.heap.size + 1, j, none⟩ := fun j => hb.cell (by show w.heap.size + 1 < _; omega)
  have f2 : ∀ j, w2.frozen? ⟨w.heap.size + 1, j, none⟩ = wr.frozen? ⟨w.heap.size + 1, j, none⟩ := fun j => hb.frozen (by show w.heap.size + 1 < _; omega)
  ⟨h.row.later hb (by omega), by rw [c1]; exact h.r0, by rw [c1]; exact h.r1, by rw [f1]; exact h.f0, by rw [f1]; exact h.f1, by rw [c2]; exact h.a0, by rw [c2]; exact h.a1, by rw [f2]; exact h.g0, by rw [f2]; exact h.g1, h.lt, Nat.lt_of_lt_of_le h.size hb.size, h.below.trans (hb.mono (by omega))⟩
theorem Acc.put {w wr : World} {b acc y : Nat} {ns : List Nat} (h : Acc w wr b ns acc) : Acc w ((wr.setCell ⟨w.heap.size + 1, 0, none⟩ (.int .u64 ((hiN y : Nat) : Int))).setCell ⟨w.heap.size + 1, 1, none⟩ (.int .u64 ((loN y : Nat) : Int))) b ns y := by
  have hl := h.lt
  have far : ∀ c j, c ≠ w.heap.size + 1 → ((wr.setCell ⟨w.heap.size + 1, 0, none⟩ (.int .u64 ((hiN y : Nat) : Int))).setCell ⟨w.heap.size + 1, 1, none⟩ (.int .u64 ((loN y : Nat) : Int))).cell? ⟨c, j, none⟩ = wr.cell? ⟨c, j, none⟩ := fun c j hc => cell_put_far hc
  exact ⟨fun j hj => ⟨by rw [far _ _ (by omega)]; exact (h.row j hj).1, by rw [far _ _ (by omega)]; exact (h.row j hj).2⟩, by rw [far _ _ (by omega)]; exact h.r0, by rw [far _ _ (by omega)]; exact h.r1, by simpa using h.f0, by simpa using h.f1, cell_put0 h.a0 h.a1, cell_put1 h.a0 h.a1, by simpa using h.g0, by simpa using h.g1, h.lt, by simpa using h.size, bl_put h.below (by omega)⟩

end Go.Proofs.Ytfdanlfiaoedfaa
namespace Go.Proofs.Ytfdanlfiaoedfaa
open Go.RowKit Go.Sort Wm

theorem numEq (a b : Nat) : ((((hiN a : Nat) : Int) == ((hiN b : Nat) : Int)) && (((loN a : Nat) : Int) == ((loN b : Nat) : Int))) = decide (a = b) := by
  by_cases h : a = b
  · subst h; simp
  · rw [decide_eq_false h, Bool.and_eq_false_iff]
    by_cases h1 : hiN a = hiN b
    · right
      rw [beq_eq_false_iff_ne]
      intro e
      exact h (num_inj h1 (by omega))
    · left
      rw [beq_eq_false_iff_ne]
      omega
theorem run_equal_num (a b : Nat) (w : World) : (Op.equalIn 10000 27 (numV a) (numV b)).run Try.prog w = .ok (decide (a = b)) w := by
  rw [← numEq]
  simp [go_sem]
  split
  · rename_i h1
    split
    · rename_i h2; simp [h1, h2]
    · rename_i h2; simp [h1, h2]
  · rename_i h1; simp [h1]
theorem run_eql_num (a b : Nat) (w : World) : (binOp .eql 27 (numV a) (numV b)).run Try.prog w = .ok (.bool (decide (a = b))) w := by
  rw [numV, numV, run_eql_struct, run_equal_num]; rfl
theorem run_neq_num (a b : Nat) (w : World) : (binOp .neq 27 (numV a) (numV b)).run Try.prog w = .ok (.bool (!decide (a = b))) w := by
  rw [numV, numV, run_neq_struct, run_equal_num]; rfl
theorem run_eql_num0 (a : Nat) (w : World) : (binOp .eql 27 (numV a) (.agg #[.int .u64 0, .int .u64 0])).run Try.prog w = .ok (.bool (decide (a = 0))) w := run_eql_num a 0 w
end Go.Proofs.Ytfdanlfiaoedfaa
