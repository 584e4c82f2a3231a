/- Call: an argument of the type bondstorelaw04.Call, and of slices of it: what its cells hold. No condition. -/
import Derived.Test.YtdphflbgecnhkaaDoorRows
import Derived.Deep.Slices
import Derived.ChangeArms
import Derived.ChangeSame
import Derived.OpenShut
import Derived.SizedLaws
import Derived.Below
import Derived.WalkKit
import Derived.KernelRfl
namespace Go.Proofs.YtdphflbgecnhkaaDoor
open Go.RowKit Go.ChangeShapes Go.WideShapes Go.Deep

structure Call where
  kind : Int
  n : Int
  data : ByteArray
  mask : Nat
  cut : Int
  deriving Inhabited
/-- Its cells. -/
def Call.cells (x : Call) : List Value := [.int .i64 x.kind, .int .i64 x.n, .string x.data, .int .u64 ((x.mask : Nat) : Int), .int .i64 x.cut]
theorem Call.cells_length (x : Call) : x.cells.length = 5 := rfl
structure Call.Wf (x : Call) : Prop where
  kind : -9223372036854775808 ≤ x.kind ∧ x.kind ≤ 9223372036854775807
  n : -9223372036854775808 ≤ x.n ∧ x.n ≤ 9223372036854775807
  data : x.data.size ≤ 140737488351232
  mask : x.mask ≤ 18446744073709551615
  cut : -9223372036854775808 ≤ x.cut ∧ x.cut ≤ 9223372036854775807

section
variable {H : Type} {enc : TypeId × Value → H} {w : World} {base : Nat} {spare : Nat → Bool} {held : Bool}
end

/-- A slice of them in memory. -/
structure CallsAt (w : World) (ao : Option Addr) (l : List Call) : Prop where
  spot : ∀ k (h : k < l.length), ∃ b off, ao = some ⟨b, off, none⟩ ∧ b < w.heap.size ∧ ∀ j v, (l[k]).cells[j]? = some v → w.cell? ⟨b, off + k * 5 + j, none⟩ = some v
theorem CallsAt.later {w w2 : World} {ao : Option Addr} {l : List Call} (h : CallsAt w ao l) (hb : Below w.heap.size w w2) : CallsAt w2 ao l :=
  ⟨fun k hk => by
    obtain ⟨b, off, e, hlt, hc⟩ := h.spot k hk
    exact ⟨b, off, e, Nat.lt_of_lt_of_le hlt hb.size, fun j v hj => by rw [hb.cell (p := ⟨b, off + k * 5 + j, none⟩) hlt]; exact hc j v hj⟩⟩
theorem CallsAt.below {B : Nat} {w w2 : World} {ao : Option Addr} {l : List Call} (h : CallsAt w ao l) (hb : Below B w w2) (hB : w.heap.size ≤ B) : CallsAt w2 ao l := h.later (hb.mono hB)
section
variable {H : Type} {enc : TypeId × Value → H} {w : World} {base : Nat} {spare : Nat → Bool} {held : Bool}
end
end Go.Proofs.YtdphflbgecnhkaaDoor
