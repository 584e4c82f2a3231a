/- Stage 26: the landed shelf's Of. No condition but that a number is one. -/
/- Stage 26: the landed shelf keeps what the walks ask of it, whatever else the world must keep. -/
import Derived.Test.YtdphflbgecnhkaaZBa
import Derived.Test.YtdphflbgecnhkaaZBc
import Derived.Test.YtdphflbgecnhkaaZYs
import Derived.Test.YtdphflbgecnhkaaZYu
import Derived.Test.YtdphflbgecnhkaaZYw
import Derived.Test.YtdphflbgecnhkaaZYzc
import Derived.Shelf.Strings.Trim
import Derived.Deep.RegionHeld3
namespace Go.Proofs.Ytdphflbgecnhkaa
open Go.RowKit Go.Sort Wm

/-- What Of works beside. -/
structure OfW (w wr : World) : Prop where
  r0 : wr.cell? ⟨w.heap.size + 1, 0, none⟩ = some (.string ByteArray.empty)
  r1 : wr.cell? ⟨w.heap.size + 1, 1, none⟩ = some (.string ByteArray.empty)
  r2 : wr.cell? ⟨w.heap.size + 1, 2, none⟩ = some (.int .i64 0)
  g : ∀ j, wr.frozen? ⟨w.heap.size + 1, j, none⟩ = false
  lt : w.heap.size + 1 < wr.heap.size
  below : Below w.heap.size w wr
theorem OfW.later {w wr w2 : World} (h : OfW w wr) (hb : Below wr.heap.size wr w2) : OfW w w2 :=
  ⟨by rw [hb.cell (p := ⟨w.heap.size + 1, 0, none⟩) h.lt]; exact h.r0, by rw [hb.cell (p := ⟨w.heap.size + 1, 1, none⟩) h.lt]; exact h.r1, by rw [hb.cell (p := ⟨w.heap.size + 1, 2, none⟩) h.lt]; exact h.r2,
    fun j => by rw [hb.frozen (p := ⟨w.heap.size + 1, j, none⟩) h.lt]; exact h.g j, Nat.lt_of_lt_of_le h.lt hb.size, h.below.trans (hb.mono h.below.size)⟩
end Go.Proofs.Ytdphflbgecnhkaa
namespace Go.Proofs.Ytdphflbgecnhkaa
open Go.RowKit Go.Sort Wm

theorem landedSh {Mo : World → Prop} (hM : ∀ W W', Mo W → Below W.heap.size W W' → Mo W') : LandedSh Mo where
  later := hM
  good := fun p W hp _ => shGood_any p hp W
  id := fun p W hp _ => shId_any p hp W
  parse := fun s st W hs hst _ => shParse_any s st hs hst W
  shows := fun p W hp _ => shShow_any p hp W
end Go.Proofs.Ytdphflbgecnhkaa
