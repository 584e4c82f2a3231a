/- Plain arithmetic for the document's own digits: doubled digit by digit. No condition. -/
/- The document's own Show: digit by digit, doubled. -/
import Derived.Test.YtdphflbgecnhkaaDoorZWa
import Derived.Test.YtdphflbgecnhkaaDoorZBb
import Derived.Deep.AppendSrc
import Derived.Room.AppendZeros
namespace Go.Proofs.YtdphflbgecnhkaaDoor.Wm
open Go Go.RowKit

/-- Digit e of a number, counted from the lowest. -/
def digE (X e : Nat) : Nat := X / 10 ^ e % 10
end Go.Proofs.YtdphflbgecnhkaaDoor.Wm
namespace Go.Proofs.YtdphflbgecnhkaaDoor
open Go.RowKit Go.Sort Wm

def mixE (X Y L q p : Nat) : Nat := if L ≤ p + q then digE Y (L - 1 - p) else digE X (L - 1 - p)
/-- What lies in memory: the number's box, and a row of digits. -/
structure Dg (w wr : World) (a blk L X Y q : Nat) : Prop where
  b0 : wr.cell? ⟨w.heap.size, 0, none⟩ = some (.int .u64 ((hiN a : Nat) : Int))
  b1 : wr.cell? ⟨w.heap.size, 1, none⟩ = some (.int .u64 ((loN a : Nat) : Int))
  row : ∀ p, p < L → wr.cell? ⟨blk, p, none⟩ = some (.int .i64 ((mixE X Y L q p : Nat) : Int))
  fz : ∀ p, wr.frozen? ⟨blk, p, none⟩ = false
  far : w.heap.size < blk
  lt : blk < wr.heap.size
  below : Below w.heap.size w wr
theorem Dg.later {w wr w2 : World} {a blk L X Y q : Nat} (h : Dg w wr a blk L X Y q) (hb : Below wr.heap.size wr w2) : Dg w w2 a blk L X Y q :=
  have hl := h.lt
  have hf := h.far
  ⟨by rw [hb.cell (by show w.heap.size < _; omega)]; exact h.b0, by rw [hb.cell (by show w.heap.size < _; omega)]; exact h.b1, fun p hp => by rw [hb.cell (by show blk < _; omega)]; exact h.row p hp, fun p => by rw [hb.frozen (by show blk < _; omega)]; exact h.fz p, h.far, Nat.lt_of_lt_of_le h.lt hb.size, h.below.trans (hb.mono (by omega))⟩
theorem Dg.put {w wr : World} {a blk L X Y q p : Nat} (h : Dg w wr a blk L X Y q) (hp : p + q + 1 = L) (d : Int) (hd : d = ((digE Y q : Nat) : Int)) :
    Dg w (wr.setCell ⟨blk, p, none⟩ (.int .i64 d)) a blk L X Y (q + 1) := by
  have hf := h.far
  have far : ∀ c j, (c ≠ blk ∨ j ≠ p) → (wr.setCell ⟨blk, p, none⟩ (.int .i64 d)).cell? ⟨c, j, none⟩ = wr.cell? ⟨c, j, none⟩ := fun c j hc => by
    rw [World.cell?_setCell_other]
    intro e; injection e with e1 e2 _; omega
  refine ⟨by rw [far _ _ (by omega)]; exact h.b0, by rw [far _ _ (by omega)]; exact h.b1, fun j hj => ?_, fun j => by simpa using h.fz j, h.far, by simpa using h.lt, h.below.setCell (by show _ ≤ blk; omega) _⟩
  by_cases e : j = p
  · subst e
    rw [World.cell?_setCell_same _ _ _ (h.row j hj), hd]
    unfold mixE
    rw [if_pos (by omega), show L - 1 - j = q by omega]
  · rw [far _ _ (by omega), h.row j hj]
    unfold mixE
    by_cases k : L ≤ j + q
    · rw [if_pos k, if_pos (by omega)]
    · rw [if_neg k, if_neg (by omega)]
theorem Dg.start {w wr : World} {a blk L X Y : Nat} (h : Dg w wr a blk L X X 0) : Dg w wr a blk L X Y 0 :=
  ⟨h.b0, h.b1, fun p hp => by have := h.row p hp; unfold mixE at *; rw [if_neg (by omega)] at *; exact this, h.fz, h.far, h.lt, h.below⟩
theorem Dg.done {w wr : World} {a blk L X Y : Nat} (h : Dg w wr a blk L X Y L) : Dg w wr a blk L Y Y 0 :=
  ⟨h.b0, h.b1, fun p hp => by have := h.row p hp; unfold mixE at *; rw [if_pos (by omega)] at this; rw [if_neg (by omega)]; exact this, h.fz, h.far, h.lt, h.below⟩
end Go.Proofs.YtdphflbgecnhkaaDoor
