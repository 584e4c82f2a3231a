/- Resu: an argument of the type api.Result, and of slices of it: what its cells hold. No condition. -/
import Derived.Test.YtcailaeebheaoaaRows
import Derived.Deep.Slices
import Derived.ChangeArms
import Derived.ChangeSame
import Derived.OpenShut
import Derived.SizedLaws
import Derived.Below
import Derived.WalkKit
import Derived.KernelRfl
namespace Go.Proofs.Ytcailaeebheaoaa
open Go.RowKit Go.ChangeShapes Go.WideShapes Go.Deep

structure Resu where
  N : Int
  deriving Inhabited
/-- Its cells. -/
def Resu.cells (x : Resu) : List Value := [.int .i64 x.N]
theorem Resu.cells_length (x : Resu) : x.cells.length = 1 := rfl
structure Resu.Wf (x : Resu) : Prop where
  N : -9223372036854775808 ≤ x.N ∧ x.N ≤ 9223372036854775807

section
variable {H : Type} {enc : TypeId × Value → H} {w : World} {base : Nat} {spare : Nat → Bool} {held : Bool}
end

/-- A slice of them in memory. -/
structure ResusAt (w : World) (ao : Option Addr) (l : List Resu) : Prop where
  spot : ∀ k (h : k < l.length), ∃ b off, ao = some ⟨b, off, none⟩ ∧ b < w.heap.size ∧ ∀ j v, (l[k]).cells[j]? = some v → w.cell? ⟨b, off + k * 1 + j, none⟩ = some v
theorem ResusAt.later {w w2 : World} {ao : Option Addr} {l : List Resu} (h : ResusAt w ao l) (hb : Below w.heap.size w w2) : ResusAt w2 ao l :=
  ⟨fun k hk => by
    obtain ⟨b, off, e, hlt, hc⟩ := h.spot k hk
    exact ⟨b, off, e, Nat.lt_of_lt_of_le hlt hb.size, fun j v hj => by rw [hb.cell (p := ⟨b, off + k * 1 + j, none⟩) hlt]; exact hc j v hj⟩⟩
theorem ResusAt.below {B : Nat} {w w2 : World} {ao : Option Addr} {l : List Resu} (h : ResusAt w ao l) (hb : Below B w w2) (hB : w.heap.size ≤ B) : ResusAt w2 ao l := h.later (hb.mono hB)
section
variable {H : Type} {enc : TypeId × Value → H} {w : World} {base : Nat} {spare : Nat → Bool} {held : Bool}
end
end Go.Proofs.Ytcailaeebheaoaa
