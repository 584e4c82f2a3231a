/- A list of cells that are known in a world, carried along. No program. -/
/- The document's own bytes: bit by bit. -/
/- FromBytes: the number of the first sixteen bytes. -/
import Derived.Test.YtageeodmpbngaaaYBa
import Derived.WalkKit
import Derived.Lib.LazyBuf
import Derived.RegionTactic
namespace Go.Proofs.Ytageeodmpbngaaa
open Go.RowKit

/-- Known cells: block, offset, value. -/
def Has (w : World) : List (Nat × Nat × Value) → Prop
  | [] => True
  | f :: r => (w.cell? ⟨f.1, f.2.1, none⟩ = some f.2.2 ∧ f.1 < w.heap.size) ∧ Has w r
theorem Has.later {w w2 : World} (hb : Below w.heap.size w w2) : ∀ {fs : List (Nat × Nat × Value)}, Has w fs → Has w2 fs
  | [], _ => trivial
  | _ :: _, h => ⟨⟨by rw [hb.cell (by exact h.1.2)]; exact h.1.1, Nat.lt_of_lt_of_le h.1.2 hb.size⟩, Has.later hb h.2⟩
theorem Has.alloc {w : World} {fs : List (Nat × Nat × Value)} (h : Has w fs) (o : Obj) : Has (w.alloc o) fs := h.later ((Below.refl _ _).alloc (Nat.le_refl _) o)
end Go.Proofs.Ytageeodmpbngaaa
namespace Go.Proofs.Ytageeodmpbngaaa
open Go.RowKit Go.Sort Wm

def bytesP (n j : Nat) : List UInt8 := (List.range j).map (byteN n)
theorem bytesP_length (n j : Nat) : (bytesP n j).length = j := by simp [bytesP]
theorem bytesP_succ (n j : Nat) : bytesP n (j + 1) = bytesP n j ++ [byteN n j] := by simp [bytesP, List.range_succ]
def textP (n j : Nat) : ByteArray := ⟨(bytesP n j).toArray⟩
theorem textP_size (n j : Nat) : (textP n j).size = j := by
  show (bytesP n j).toArray.size = j
  simp [bytesP_length]
def byteT (x : UInt8) : ByteArray := ⟨#[x]⟩
theorem byteT_size (x : UInt8) : (byteT x).size = 1 := rfl
theorem textP_succ (n j : Nat) : textP n j ++ byteT (byteN n j) = textP n (j + 1) := by
  apply ByteArray.ext
  rw [ByteArray.data_append]
  show (bytesP n j).toArray ++ #[byteN n j] = (bytesP n (j + 1)).toArray
  rw [bytesP_succ]; simp
theorem conv1 (x : UInt8) (W : World) :
    (convert 58 9 (.slice (some ⟨W.heap.size, 0, none⟩) 1 1)).run Try.prog (W.alloc (.cells #[.int .u8 ((x.toNat : Nat) : Int)] 5)) = .ok (.string (byteT x)) (W.alloc (.cells #[.int .u8 ((x.toNat : Nat) : Int)] 5)) :=
  run_convert_bytes_back (P := Try.prog) _ 58 9 5 ⟨W.heap.size, 0, none⟩ 1 [x] Try.underlying58 Try.underlying5 Try.underlying9 (fun j hj => by
    obtain rfl : j = 0 := by simpa using hj
    simp [Addr.add, go_sem])

end Go.Proofs.Ytageeodmpbngaaa
namespace Go.Proofs.Ytageeodmpbngaaa
open Go.RowKit Go.Sort Wm

/-- The bytes of a string, by their places. -/
def byteAt (s : ByteArray) (j : Nat) : Nat := (s.data.toList.getD j 0).toNat
/-- What lies in memory once the bytes have gone over. -/
structure Fb (w wr : World) (s : ByteArray) : Prop where
  r0 : ∃ v, wr.cell? ⟨w.heap.size, 0, none⟩ = some v
  r1 : ∃ v, wr.cell? ⟨w.heap.size, 1, none⟩ = some v
  f0 : wr.frozen? ⟨w.heap.size, 0, none⟩ = false
  f1 : wr.frozen? ⟨w.heap.size, 1, none⟩ = false
  bytes : ∀ j, j < 16 → wr.cell? ⟨w.heap.size + 1, j, none⟩ = some (.int .u8 ((byteAt s j : Nat) : Int))
  size : w.heap.size + 1 < wr.heap.size
  below : Below w.heap.size w wr
theorem Fb.later {w wr w2 : World} {s : ByteArray} (h : Fb w wr s) (hb : Below wr.heap.size wr w2) : Fb w w2 s :=
  have hs := h.size
  have c1 : ∀ j, w2.cell? ⟨w.heap.size, j, none⟩ = wr.cell? ⟨w.heap.size, j, none⟩ := fun j => hb.cell (by show w.heap.size < _; omega)
  have f1 : ∀ j, w2.frozen? ⟨w.heap.size, j, none⟩ = wr.frozen? ⟨w.heap.size, j, none⟩ := fun j => hb.frozen (by show w.heap.size < _; omega)
  have c2 : ∀ j, w2.cell? ⟨w.heap.size + 1, j, none⟩ = wr.cell? ⟨w.heap.size + 1, j, none⟩ := fun j => hb.cell (by show w.heap.size + 1 < _; omega)
  ⟨by rw [c1]; exact h.r0, by rw [c1]; exact h.r1, by rw [f1]; exact h.f0, by rw [f1]; exact h.f1, fun j hj => by rw [c2]; exact h.bytes j hj, Nat.lt_of_lt_of_le h.size hb.size, h.below.trans (hb.mono (by omega))⟩
/-- .. and the number that is gathered, in a block behind. -/
structure Fg (w wr : World) (s : ByteArray) (g x y : Nat) : Prop where
  fb : Fb w wr s
  a0 : wr.cell? ⟨g, 0, none⟩ = some (.int .u64 ((x : Nat) : Int))
  a1 : wr.cell? ⟨g, 1, none⟩ = some (.int .u64 ((y : Nat) : Int))
  g0 : wr.frozen? ⟨g, 0, none⟩ = false
  g1 : wr.frozen? ⟨g, 1, none⟩ = false
  far : w.heap.size + 1 < g

theorem Fg.drew {w wr : World} {s : ByteArray} {g x y : Nat} (h : Fg w wr s g x y) : Fg w wr.drew s g x y :=
  ⟨h.fb.later ((Below.refl _ _).drew), h.a0, h.a1, h.g0, h.g1, h.far⟩
theorem cell_set_far {W : World} {b p c j : Nat} {x : Value} (h : c ≠ b ∨ j ≠ p) : (W.setCell ⟨b, p, none⟩ x).cell? ⟨c, j, none⟩ = W.cell? ⟨c, j, none⟩ := by
  rw [World.cell?_setCell_other]
  intro e; injection e with e1 e2 _; omega
theorem Fb.put {w wr : World} {s : ByteArray} {g j : Nat} (h : Fb w wr s) (hg : w.heap.size + 1 < g) (v : Value) : Fb w (wr.setCell ⟨g, j, none⟩ v) s :=
  ⟨by rw [cell_set_far (by omega)]; exact h.r0, by rw [cell_set_far (by omega)]; exact h.r1, by simpa using h.f0, by simpa using h.f1, fun i hi => by rw [cell_set_far (by omega)]; exact h.bytes i hi, by simpa using h.size, h.below.setCell (by show _ ≤ g; omega) _⟩
theorem or_step (v x k : Nat) (hv : v < 2 ^ (8 * k)) (hx : x < 256) (hk : k < 8) : bits .or .u64 ((v : Nat) : Int) (IntKind.u64.wrap (((x : Nat) : Int) * 2 ^ (8 * k))) = ((v + x * 2 ^ (8 * k) : Nat) : Int) := by
  have h1 : 2 ^ (8 * k) ≤ 2 ^ 56 := Nat.pow_le_pow_right (by omega) (by omega)
  have h3 : x * 2 ^ (8 * k) ≤ 255 * 2 ^ (8 * k) := Nat.mul_le_mul_right _ (by omega)
  have h4 : x * 2 ^ (8 * k) < 18446744073709551616 := by omega
  have e1 : ((x : Nat) : Int) * 2 ^ (8 * k) = ((x * 2 ^ (8 * k) : Nat) : Int) := by rw [Int.natCast_mul, Int.natCast_pow]; rfl
  rw [e1, wrap_u64_small _ h4, bits_or_u64_nat _ _ (by omega) h4, Nat.or_comm, Nat.mul_comm, ← Nat.two_pow_add_eq_or_of_lt hv, Nat.add_comm]

end Go.Proofs.Ytageeodmpbngaaa
