/- The document's sum: bit by bit. No condition but the text's size. -/
/- The document's four bytes of a sum. No condition but the sum's size. -/
/- The landed Bytes and FromBytes of a sum. No condition but the sum's size. -/
import Derived.Test.YtdphflbgecnhkaaDoorRows
import Derived.Test.YtdphflbgecnhkaaDoorZCrc
import Derived.WalkKit
import Derived.WalkSpells
import Derived.WalkLawsBesides
import Derived.Lib.QuietBelow
import Derived.Lib.Hide
import Derived.BigQuiet
import Derived.Deep.DeepCutAuto
import Derived.Laws.BitsAllLaws
import Derived.IntWalk
import Derived.Lib.LazyBuf
import Derived.RegionTactic
import Derived.Deep.RegionWith
import Derived.Deep.RegionHeld3
namespace Go.Proofs.YtdphflbgecnhkaaDoor
open Go.RowKit Go.Sort Cr

/-- A text's bytes, as numbers. -/
def bytesC (s : ByteArray) : List Nat := s.data.toList.map UInt8.toNat
end Go.Proofs.YtdphflbgecnhkaaDoor
namespace Go.Proofs.YtdphflbgecnhkaaDoor
open Go.RowKit Go.Sort Cr

/-- A sum's four bytes, as a text. -/
def byteU (x : Nat) : UInt8 := UInt8.ofNat (x % 256)
def fourL (c : Nat) : List UInt8 := [byteU c, byteU (c / 256), byteU (c / 65536), byteU (c / 16777216)]
def fourT (c : Nat) : ByteArray := ⟨(fourL c).toArray⟩
end Go.Proofs.YtdphflbgecnhkaaDoor
namespace Go.Proofs.YtdphflbgecnhkaaDoor
open Go.RowKit Go.Sort Cr

/-- Byte j of a sum. -/
def byte4 (c j : Nat) : UInt8 := byteU (c / 2 ^ (8 * j))
theorem fourL_map (c : Nat) : fourL c = (List.range 4).map (byte4 c) := by
  unfold fourL byte4
  simp [List.range_succ]
/-- What lies in memory while the bytes are laid. -/
structure By4 (w wr : World) (c k : Nat) : Prop where
  old : ∀ j, j < 4 → ∃ v, wr.cell? ⟨w.heap.size, j, none⟩ = some v
  fz : ∀ j, wr.frozen? ⟨w.heap.size, j, none⟩ = false
  lo : ∀ j, j < k → wr.cell? ⟨w.heap.size, j, none⟩ = some (.int .u8 (((byte4 c j).toNat : Nat) : Int))
  below : Below w.heap.size w wr
theorem By4.put {w wr : World} {c k : Nat} (h : By4 w wr c k) (hk : k < 4) (x : Int) (hx : x = (((byte4 c k).toNat : Nat) : Int)) :
    By4 w (wr.setCell ⟨w.heap.size, k, none⟩ (.int .u8 x)) c (k + 1) := by
  obtain ⟨u, hu⟩ := h.old k (by omega)
  have far : ∀ j, j ≠ k → (wr.setCell ⟨w.heap.size, k, none⟩ (.int .u8 x)).cell? ⟨w.heap.size, j, none⟩ = wr.cell? ⟨w.heap.size, j, none⟩ := fun j hj => by
    rw [World.cell?_setCell_other]
    intro e; injection e with e1 e2 _; omega
  have same : (wr.setCell ⟨w.heap.size, k, none⟩ (.int .u8 x)).cell? ⟨w.heap.size, k, none⟩ = some (.int .u8 x) := World.cell?_setCell_same _ _ _ hu
  refine ⟨fun j hj => ?_, fun j => by simpa using h.fz j, fun j hj => ?_, h.below.setCell (Nat.le_refl _) _⟩
  · by_cases e : j = k
    · subst e; exact ⟨_, same⟩
    · rw [far j e]; exact h.old j hj
  · by_cases e : j = k
    · subst e; rw [same, hx]
    · rw [far j e]; exact h.lo j (by omega)
theorem By4.text {w wr : World} {c : Nat} (h : By4 w wr c 4) :
    (convert 40 9 (.slice (some ⟨w.heap.size, 0, none⟩) 4 4)).run Tryd.prog wr = .ok (.string (fourT c)) wr := by
  have := run_convert_bytes_back (P := Tryd.prog) wr 40 9 5 ⟨w.heap.size, 0, none⟩ 4 (fourL c) Tryd.underlying40 Tryd.underlying5 Tryd.underlying9 (fun j hj => by
    have hj2 : j < 4 := hj
    have := h.lo j hj2
    have e : (fourL c)[j]'hj = byte4 c j := by simp [fourL_map]
    rw [e]
    simp only [Addr.add]
    split
    · rename_i h0; subst h0; simpa using this
    · simpa using this)
  exact this
end Go.Proofs.YtdphflbgecnhkaaDoor
