/- Place: an argument of the type shelf.Place, and of slices of it: what its cells hold. No condition. -/
import Derived.Test.YtdphflbgecnhkaaRows
import Derived.Deep.Slices
import Derived.ChangeArms
import Derived.ChangeSame
import Derived.OpenShut
import Derived.SizedLaws
import Derived.Below
import Derived.WalkKit
import Derived.KernelRfl
namespace Go.Proofs.Ytdphflbgecnhkaa
open Go.RowKit Go.ChangeShapes Go.WideShapes Go.Deep

structure Place where
  Good : ByteArray
  Site : ByteArray
  State : Int
  deriving Inhabited
/-- Its cells. -/
def Place.cells (x : Place) : List Value := [.string x.Good, .string x.Site, .int .i64 x.State]
theorem Place.cells_length (x : Place) : x.cells.length = 3 := rfl
structure Place.Wf (x : Place) : Prop where
  Good : x.Good.size ≤ 140737488351232
  Site : x.Site.size ≤ 140737488351232
  State : -9223372036854775808 ≤ x.State ∧ x.State ≤ 9223372036854775807

section
variable {H : Type} {enc : TypeId × Value → H} {w : World} {base : Nat} {spare : Nat → Bool} {held : Bool}
end

/-- A slice of them in memory. -/
structure PlacesAt (w : World) (ao : Option Addr) (l : List Place) : Prop where
  spot : ∀ k (h : k < l.length), ∃ b off, ao = some ⟨b, off, none⟩ ∧ b < w.heap.size ∧ ∀ j v, (l[k]).cells[j]? = some v → w.cell? ⟨b, off + k * 3 + j, none⟩ = some v
theorem PlacesAt.later {w w2 : World} {ao : Option Addr} {l : List Place} (h : PlacesAt w ao l) (hb : Below w.heap.size w w2) : PlacesAt w2 ao l :=
  ⟨fun k hk => by
    obtain ⟨b, off, e, hlt, hc⟩ := h.spot k hk
    exact ⟨b, off, e, Nat.lt_of_lt_of_le hlt hb.size, fun j v hj => by rw [hb.cell (p := ⟨b, off + k * 3 + j, none⟩) hlt]; exact hc j v hj⟩⟩
theorem PlacesAt.below {B : Nat} {w w2 : World} {ao : Option Addr} {l : List Place} (h : PlacesAt w ao l) (hb : Below B w w2) (hB : w.heap.size ≤ B) : PlacesAt w2 ao l := h.later (hb.mono hB)
section
variable {H : Type} {enc : TypeId × Value → H} {w : World} {base : Nat} {spare : Nat → Bool} {held : Bool}
end
end Go.Proofs.Ytdphflbgecnhkaa
