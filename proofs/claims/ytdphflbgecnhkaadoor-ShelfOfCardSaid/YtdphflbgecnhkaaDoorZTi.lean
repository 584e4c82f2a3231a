/- Item: an argument of the type bondstorelaw03.Item, and of slices of it: what its cells hold. No condition. -/
import Derived.Test.YtdphflbgecnhkaaDoorRows
import Derived.Test.YtdphflbgecnhkaaDoorZWa
import Derived.Deep.Slices
import Derived.ChangeArms
import Derived.ChangeSame
import Derived.OpenShut
import Derived.SizedLaws
import Derived.Below
import Derived.WalkKit
import Derived.KernelRfl
namespace Go.Proofs.YtdphflbgecnhkaaDoor
open Go.RowKit Go.ChangeShapes Go.WideShapes Go.Deep Wm

structure Item where
  kind : Int
  size : Int
  n : Int
  wide : Nat
  yes : Bool
  text : ByteArray
  deriving Inhabited
/-- Its cells. -/
def Item.cells (x : Item) : List Value := [.int .i64 x.kind, .int .i64 x.size, .int .i64 x.n, .int .u64 ((hiN x.wide : Nat) : Int), .int .u64 ((loN x.wide : Nat) : Int), .bool x.yes, .string x.text]
theorem Item.cells_length (x : Item) : x.cells.length = 7 := rfl
structure Item.Wf (x : Item) : Prop where
  kind : -9223372036854775808 ≤ x.kind ∧ x.kind ≤ 9223372036854775807
  size : -9223372036854775808 ≤ x.size ∧ x.size ≤ 9223372036854775807
  n : -9223372036854775808 ≤ x.n ∧ x.n ≤ 9223372036854775807
  wide : x.wide < big
  text : x.text.size ≤ 140737488351232

section
variable {H : Type} {enc : TypeId × Value → H} {w : World} {base : Nat} {spare : Nat → Bool} {held : Bool}
end

/-- A slice of them in memory. -/
structure ItemsAt (w : World) (ao : Option Addr) (l : List Item) : Prop where
  spot : ∀ k (h : k < l.length), ∃ b off, ao = some ⟨b, off, none⟩ ∧ b < w.heap.size ∧ ∀ j v, (l[k]).cells[j]? = some v → w.cell? ⟨b, off + k * 7 + j, none⟩ = some v
theorem ItemsAt.later {w w2 : World} {ao : Option Addr} {l : List Item} (h : ItemsAt w ao l) (hb : Below w.heap.size w w2) : ItemsAt w2 ao l :=
  ⟨fun k hk => by
    obtain ⟨b, off, e, hlt, hc⟩ := h.spot k hk
    exact ⟨b, off, e, Nat.lt_of_lt_of_le hlt hb.size, fun j v hj => by rw [hb.cell (p := ⟨b, off + k * 7 + j, none⟩) hlt]; exact hc j v hj⟩⟩
theorem ItemsAt.below {B : Nat} {w w2 : World} {ao : Option Addr} {l : List Item} (h : ItemsAt w ao l) (hb : Below B w w2) (hB : w.heap.size ≤ B) : ItemsAt w2 ao l := h.later (hb.mono hB)
section
variable {H : Type} {enc : TypeId × Value → H} {w : World} {base : Nat} {spare : Nat → Bool} {held : Bool}
end
end Go.Proofs.YtdphflbgecnhkaaDoor
