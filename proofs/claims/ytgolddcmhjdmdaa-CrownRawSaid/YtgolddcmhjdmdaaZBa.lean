/- Show: decimal digits. -/
/- Bytes: sixteen, the lowest first. -/
import Derived.Test.YtgolddcmhjdmdaaZWb
import Derived.Laws.IdiomStrings
import Derived.Lib.Mul64
import Derived.Deep.DeepCutAuto
import Derived.IntWalk
import Derived.Shelf.Bits.Mul64
namespace Go.Proofs.Ytgolddcmhjdmdaa
open Go.RowKit Go.Sort Wm

/-- What lies in memory while the digits are gathered: the number that is left, and the digits so far. -/
structure Sh (w wr : World) (n x k : Nat) : Prop where
  c0 : wr.cell? ⟨w.heap.size, 0, none⟩ = some (.int .u64 ((hiN x : Nat) : Int))
  c1 : wr.cell? ⟨w.heap.size, 1, none⟩ = some (.int .u64 ((loN x : Nat) : Int))
  g0 : wr.frozen? ⟨w.heap.size, 0, none⟩ = false
  g1 : wr.frozen? ⟨w.heap.size, 1, none⟩ = false
  old : ∀ j, j < 39 → ∃ v, wr.cell? ⟨w.heap.size + 1, j, none⟩ = some v
  fz : ∀ j, wr.frozen? ⟨w.heap.size + 1, j, none⟩ = false
  dig : ∀ j (h : j < (decN k n).length), wr.cell? ⟨w.heap.size + 1, 39 - k + j, none⟩ = some (.int .u8 (((decN k n)[j].toNat : Nat) : Int))
  size : w.heap.size + 1 < wr.heap.size
  below : Below w.heap.size w wr
theorem Sh.later {w wr w2 : World} {n x k : Nat} (h : Sh w wr n x k) (hb : Below wr.heap.size wr w2) : Sh w w2 n x k :=
  have hs := h.size
  have c1 : ∀ j, w2.cell? ⟨w.heap.size, j, none⟩ = wr.cell? ⟨w.heap.size, j, none⟩ := fun j => hb.cell (by show w.heap.size < _; omega)
  have f1 : ∀ j, w2.frozen? ⟨w.heap.size, j, none⟩ = wr.frozen? ⟨w.heap.size, j, none⟩ := fun j => hb.frozen (by show w.heap.size < _; omega)
  have c2 : ∀ j, w2.cell? ⟨w.heap.size + 1, j, none⟩ = wr.cell? ⟨w.heap.size + 1, j, none⟩ := fun j => hb.cell (by show w.heap.size + 1 < _; omega)
  have f2 : ∀ j, w2.frozen? ⟨w.heap.size + 1, j, none⟩ = wr.frozen? ⟨w.heap.size + 1, j, none⟩ := fun j => hb.frozen (by show w.heap.size + 1 < _; omega)
  ⟨by rw [c1]; exact h.c0, by rw [c1]; exact h.c1, by rw [f1]; exact h.g0, by rw [f1]; exact h.g1, fun j hj => by rw [c2]; exact h.old j hj, fun j => by rw [f2]; exact h.fz j, fun j hj => by rw [c2]; exact h.dig j hj, Nat.lt_of_lt_of_le h.size hb.size, h.below.trans (hb.mono (by omega))⟩

/-- The number that is left takes the place of the one ahead of it. -/
theorem Sh.rest {w wr : World} {n x y k : Nat} (h : Sh w wr n x k) : Sh w ((wr.setCell ⟨w.heap.size, 0, none⟩ (.int .u64 ((hiN y : Nat) : Int))).setCell ⟨w.heap.size, 1, none⟩ (.int .u64 ((loN y : Nat) : Int))) n y k := by
  have far : ∀ j, ((wr.setCell ⟨w.heap.size, 0, none⟩ (.int .u64 ((hiN y : Nat) : Int))).setCell ⟨w.heap.size, 1, none⟩ (.int .u64 ((loN y : Nat) : Int))).cell? ⟨w.heap.size + 1, j, none⟩ = wr.cell? ⟨w.heap.size + 1, j, none⟩ := fun j => cell_put_far (by omega)
  exact ⟨cell_put0 h.c0 h.c1, cell_put1 h.c0 h.c1, by simpa using h.g0, by simpa using h.g1, fun j hj => by rw [far]; exact h.old j hj, fun j => by simpa using h.fz j, fun j hj => by rw [far]; exact h.dig j hj, by simpa using h.size, bl_put h.below (Nat.le_refl _)⟩
/-- The digits as a string. -/
theorem Sh.text {w wr : World} {n x k p : Nat} (h : Sh w wr n x k) (hp : p + k = 39) :
    (convert 53 9 (.slice (some ⟨w.heap.size + 1, p, none⟩) (39 - p) (39 - p))).run Try.prog wr = .ok (.string ⟨(decN k n).toArray⟩) wr := by
  have e : 39 - p = (decN k n).length := by rw [decN_length]; omega
  have := run_convert_bytes_back (P := Try.prog) wr 53 9 5 ⟨w.heap.size + 1, p, none⟩ (39 - p) (decN k n) Try.underlying53 Try.underlying5 Try.underlying9 (fun j hj => by
    have := h.dig j hj
    rw [show 39 - k = p by omega] at this
    simp only [Addr.add]
    split
    · rename_i h0; subst h0; simpa using this
    · exact this)
  rw [← e] at this
  exact this

end Go.Proofs.Ytgolddcmhjdmdaa
namespace Go.Proofs.Ytgolddcmhjdmdaa
open Go.RowKit Go.Sort Wm

/-- Byte j of a number. -/
def byteN (n j : Nat) : UInt8 := UInt8.ofNat (n / 2 ^ (8 * j) % 256)
def bytesL (n : Nat) : List UInt8 := (List.range 16).map (byteN n)
theorem byteN_toNat (n j : Nat) : (byteN n j).toNat = n / 2 ^ (8 * j) % 256 := by
  unfold byteN; rw [UInt8.toNat_ofNat']; omega
/-- What lies in memory while the bytes are laid. -/
structure By (w wr : World) (n k : Nat) : Prop where
  b0 : wr.cell? ⟨w.heap.size, 0, none⟩ = some (.int .u64 ((hiN n : Nat) : Int))
  b1 : wr.cell? ⟨w.heap.size, 1, none⟩ = some (.int .u64 ((loN n : Nat) : Int))
  old : ∀ j, j < 16 → ∃ v, wr.cell? ⟨w.heap.size + 1, j, none⟩ = some v
  fz : ∀ j, wr.frozen? ⟨w.heap.size + 1, j, none⟩ = false
  lo : ∀ j, j < k → wr.cell? ⟨w.heap.size + 1, j, none⟩ = some (.int .u8 (((byteN n j).toNat : Nat) : Int))
  hi : ∀ j, j < k → wr.cell? ⟨w.heap.size + 1, 8 + j, none⟩ = some (.int .u8 (((byteN n (8 + j)).toNat : Nat) : Int))
  below : Below w.heap.size w wr
theorem cell_set2_far {W : World} {b p q c j : Nat} {x y : Value} (h : c ≠ b ∨ (j ≠ p ∧ j ≠ q)) : ((W.setCell ⟨b, p, none⟩ x).setCell ⟨b, q, none⟩ y).cell? ⟨c, j, none⟩ = W.cell? ⟨c, j, none⟩ := by
  rw [World.cell?_setCell_other, World.cell?_setCell_other]
  all_goals (intro e; injection e with e1 e2 _; omega)
theorem cell_set2_0 {W : World} {b p q : Nat} {x y u : Value} (h : W.cell? ⟨b, p, none⟩ = some u) (hpq : p ≠ q) : ((W.setCell ⟨b, p, none⟩ x).setCell ⟨b, q, none⟩ y).cell? ⟨b, p, none⟩ = some x := by
  rw [World.cell?_setCell_other]
  · exact World.cell?_setCell_same _ _ _ h
  · intro e; injection e with e1 e2 _; omega
theorem cell_set2_1 {W : World} {b p q : Nat} {x y u : Value} (h : W.cell? ⟨b, q, none⟩ = some u) (hpq : p ≠ q) : ((W.setCell ⟨b, p, none⟩ x).setCell ⟨b, q, none⟩ y).cell? ⟨b, q, none⟩ = some y := by
  refine World.cell?_setCell_same (u := u) _ _ _ ?_
  rw [World.cell?_setCell_other]
  · exact h
  · intro e; injection e with e1 e2 _; omega
theorem By.put {w wr : World} {n k : Nat} (h : By w wr n k) (hk : k < 8) (x y : Int) (hx : x = (((byteN n k).toNat : Nat) : Int)) (hy : y = (((byteN n (8 + k)).toNat : Nat) : Int)) :
    By w ((wr.setCell ⟨w.heap.size + 1, k, none⟩ (.int .u8 x)).setCell ⟨w.heap.size + 1, 8 + k, none⟩ (.int .u8 y)) n (k + 1) := by
  obtain ⟨u, hu⟩ := h.old k (by omega)
  obtain ⟨v, hv⟩ := h.old (8 + k) (by omega)
  refine ⟨by rw [cell_set2_far (by omega)]; exact h.b0, by rw [cell_set2_far (by omega)]; exact h.b1, fun j hj => ?_, fun j => by simpa using h.fz j, fun j hj => ?_, fun j hj => ?_, (h.below.setCell (by show _ ≤ w.heap.size + 1; omega) _).setCell (by show _ ≤ w.heap.size + 1; omega) _⟩
  · by_cases e : j = k
    · subst e; exact ⟨_, cell_set2_0 hu (by omega)⟩
    · by_cases e2 : j = 8 + k
      · subst e2; exact ⟨_, cell_set2_1 hv (by omega)⟩
      · rw [cell_set2_far (by omega)]; exact h.old j hj
  · by_cases e : j = k
    · subst e; rw [cell_set2_0 hu (by omega), hx]
    · rw [cell_set2_far (by omega)]; exact h.lo j (by omega)
  · by_cases e : j = k
    · subst e; rw [cell_set2_1 hv (by omega), hy]
    · rw [cell_set2_far (by omega)]; exact h.hi j (by omega)
theorem By.all {w wr : World} {n : Nat} (h : By w wr n 8) (j : Nat) (hj : j < 16) : wr.cell? ⟨w.heap.size + 1, j, none⟩ = some (.int .u8 (((byteN n j).toNat : Nat) : Int)) := by
  by_cases e : j < 8
  · exact h.lo j e
  · have := h.hi (j - 8) (by omega)
    rw [show 8 + (j - 8) = j by omega] at this
    exact this
theorem bytesL_length (n : Nat) : (bytesL n).length = 16 := by simp [bytesL]
theorem By.text {w wr : World} {n : Nat} (h : By w wr n 8) :
    (convert 53 9 (.slice (some ⟨w.heap.size + 1, 0, none⟩) 16 16)).run Try.prog wr = .ok (.string ⟨(bytesL n).toArray⟩) wr := by
  have := run_convert_bytes_back (P := Try.prog) wr 53 9 5 ⟨w.heap.size + 1, 0, none⟩ 16 (bytesL n) Try.underlying53 Try.underlying5 Try.underlying9 (fun j hj => by
    have hj2 : j < 16 := by rw [bytesL_length] at hj; exact hj
    have := h.all j hj2
    have e : (bytesL n)[j]'hj = byteN n j := by simp [bytesL]
    rw [e]
    simp only [Addr.add]
    split
    · rename_i h0; subst h0; simpa using this
    · simpa using this)
  rw [bytesL_length] at this
  exact this
end Go.Proofs.Ytgolddcmhjdmdaa
