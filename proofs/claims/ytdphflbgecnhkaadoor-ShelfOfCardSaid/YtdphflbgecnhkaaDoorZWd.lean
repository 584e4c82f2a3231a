/- Show: decimal digits. -/
import Derived.Test.YtdphflbgecnhkaaDoorZWb
import Derived.Laws.IdiomStrings
import Derived.Lib.Mul64
import Derived.Deep.DeepCutAuto
import Derived.IntWalk
import Derived.Shelf.Bits.Mul64
namespace Go.Proofs.YtdphflbgecnhkaaDoor
open Go.RowKit Go.Sort Wm

/-- What lies in memory while the digits are gathered: the number that is left, and the digits so far. -/
structure Sh (w wr : World) (n x k : Nat) : Prop where
  c0 : wr.cell? ⟨w.heap.size, 0, none⟩ = some (.int .u64 ((hiN x : Nat) : Int))
  c1 : wr.cell? ⟨w.heap.size, 1, none⟩ = some (.int .u64 ((loN x : Nat) : Int))
  g0 : wr.frozen? ⟨w.heap.size, 0, none⟩ = false
  g1 : wr.frozen? ⟨w.heap.size, 1, none⟩ = false
  old : ∀ j, j < 39 → ∃ v, wr.cell? ⟨w.heap.size + 1, j, none⟩ = some v
  fz : ∀ j, wr.frozen? ⟨w.heap.size + 1, j, none⟩ = false
  dig : ∀ j (h : j < (decN k n).length), wr.cell? ⟨w.heap.size + 1, 39 - k + j, none⟩ = some (.int .u8 (((decN k n)[j].toNat : Nat) : Int))
  size : w.heap.size + 1 < wr.heap.size
  below : Below w.heap.size w wr
theorem Sh.later {w wr w2 : World} {n x k : Nat} (h : Sh w wr n x k) (hb : Below wr.heap.size wr w2) : Sh w w2 n x k :=
  have hs := h.size
  have c1 : ∀ j, w2.cell? ⟨w.heap.size, j, none⟩ = wr.cell? ⟨w.heap.size, j, none⟩ := fun j => hb.cell (by show w.heap.size < _; omega)
  have f1 : ∀ j, w2.frozen? ⟨w.heap.size, j, none⟩ = wr.frozen? ⟨w.heap.size, j, none⟩ := fun j => hb.frozen (by show w.heap.size < _; omega)
  have c2 : ∀ j, w2.cell? ⟨w.heap.size + 1, j, none⟩ = wr.cell? ⟨w.heap.size + 1, j, none⟩ := fun j => hb.cell (by show w.heap.size + 1 < _; omega)
  have f2 : ∀ j, w2.frozen? ⟨w.heap.size + 1, j, none⟩ = wr.frozen? ⟨w.heap.size + 1, j, none⟩ := fun j => hb.frozen (by show w.heap.size + 1 < _; omega)
  ⟨by rw [c1]; exact h.c0, by rw [c1]; exact h.c1, by rw [f1]; exact h.g0, by rw [f1]; exact h.g1, fun j hj => by rw [c2]; exact h.old j hj, fun j => by rw [f2]; exact h.fz j, fun j hj => by rw [c2]; exact h.dig j hj, Nat.lt_of_lt_of_le h.size hb.size, h.below.trans (hb.mono (by omega))⟩

/-- The number that is left takes the place of the one ahead of it. -/
theorem Sh.rest {w wr : World} {n x y k : Nat} (h : Sh w wr n x k) : Sh w ((wr.setCell ⟨w.heap.size, 0, none⟩ (.int .u64 ((hiN y : Nat) : Int))).setCell ⟨w.heap.size, 1, none⟩ (.int .u64 ((loN y : Nat) : Int))) n y k := by
  have far : ∀ j, ((wr.setCell ⟨w.heap.size, 0, none⟩ (.int .u64 ((hiN y : Nat) : Int))).setCell ⟨w.heap.size, 1, none⟩ (.int .u64 ((loN y : Nat) : Int))).cell? ⟨w.heap.size + 1, j, none⟩ = wr.cell? ⟨w.heap.size + 1, j, none⟩ := fun j => cell_put_far (by omega)
  exact ⟨cell_put0 h.c0 h.c1, cell_put1 h.c0 h.c1, by simpa using h.g0, by simpa using h.g1, fun j hj => by rw [far]; exact h.old j hj, fun j => by simpa using h.fz j, fun j hj => by rw [far]; exact h.dig j hj, by simpa using h.size, bl_put h.below (Nat.le_refl _)⟩
/-- The digits as a string. -/
theorem Sh.text {w wr : World} {n x k p : Nat} (h : Sh w wr n x k) (hp : p + k = 39) :
    (convert 40 9 (.slice (some ⟨w.heap.size + 1, p, none⟩) (39 - p) (39 - p))).run Tryd.prog wr = .ok (.string ⟨(decN k n).toArray⟩) wr := by
  have e : 39 - p = (decN k n).length := by rw [decN_length]; omega
  have := run_convert_bytes_back (P := Tryd.prog) wr 40 9 5 ⟨w.heap.size + 1, p, none⟩ (39 - p) (decN k n) Tryd.underlying40 Tryd.underlying5 Tryd.underlying9 (fun j hj => by
    have := h.dig j hj
    rw [show 39 - k = p by omega] at this
    simp only [Addr.add]
    split
    · rename_i h0; subst h0; simpa using this
    · exact this)
  rw [← e] at this
  exact this

end Go.Proofs.YtdphflbgecnhkaaDoor
