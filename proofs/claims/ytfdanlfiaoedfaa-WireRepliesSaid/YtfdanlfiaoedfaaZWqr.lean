/- Resu: an argument of the type api.Result, and of slices of it: what its cells hold. No condition. -/
import Derived.Test.YtfdanlfiaoedfaaRows
import Derived.Deep.Slices
import Derived.ChangeArms
import Derived.ChangeSame
import Derived.OpenShut
import Derived.SizedLaws
import Derived.Below
import Derived.WalkKit
import Derived.KernelRfl
namespace Go.Proofs.Ytfdanlfiaoedfaa
open Go.RowKit Go.ChangeShapes Go.WideShapes Go.Deep

structure Resu where
  N : Int
  deriving Inhabited
/-- Its cells. -/
def Resu.cells (x : Resu) : List Value := [.int .i64 x.N]
theorem Resu.cells_length (x : Resu) : x.cells.length = 1 := rfl
structure Resu.Wf (x : Resu) : Prop where
  N : -9223372036854775808 ≤ x.N ∧ x.N ≤ 9223372036854775807

theorem weightsAll_mem_resu {H : Type} {P : Program} {e : TypeId} : ∀ {l : List (DataW H)} {d : DataW H}, d ∈ l → ∀ n ∈ d.weights P e, n ∈ DataW.weightsAll P e l
  | d0 :: l, d, hd, n, hn => by
    simp only [DataW.weightsAll, List.mem_append]
    rcases List.mem_cons.mp hd with rfl | hd
    · exact .inl hn
    · exact .inr (weightsAll_mem_resu hd n hn)
  | [], _, hd, _, _ => by simp at hd
section
variable {H : Type} {enc : TypeId × Value → H} {w : World} {base : Nat} {spare : Nat → Bool} {held : Bool}
set_option maxRecDepth 100000 in
/-- One, opened. -/
theorem resu_open {fuel : Nat} {cs : List Value} {x : DataW H × List MemPlace} (h : DataW.trod enc Try.prog w base spare held fuel 81 cs = some x)
    (_hz : ∀ n ∈ x.1.weights Try.prog 81, n ≤ reachBytes) : ∃ y : Resu, cs = y.cells ∧ y.Wf := by
  obtain ⟨v0, e0, _, w0⟩ := DataW.trod_int Try.underlying81 h
  exact ⟨⟨v0⟩, e0, ⟨bounds_i64 w0⟩⟩
end

/-- A slice of them in memory. -/
structure ResusAt (w : World) (ao : Option Addr) (l : List Resu) : Prop where
  spot : ∀ k (h : k < l.length), ∃ b off, ao = some ⟨b, off, none⟩ ∧ b < w.heap.size ∧ ∀ j v, (l[k]).cells[j]? = some v → w.cell? ⟨b, off + k * 1 + j, none⟩ = some v
theorem ResusAt.later {w w2 : World} {ao : Option Addr} {l : List Resu} (h : ResusAt w ao l) (hb : Below w.heap.size w w2) : ResusAt w2 ao l :=
  ⟨fun k hk => by
    obtain ⟨b, off, e, hlt, hc⟩ := h.spot k hk
    exact ⟨b, off, e, Nat.lt_of_lt_of_le hlt hb.size, fun j v hj => by rw [hb.cell (p := ⟨b, off + k * 1 + j, none⟩) hlt]; exact hc j v hj⟩⟩
theorem ResusAt.below {B : Nat} {w w2 : World} {ao : Option Addr} {l : List Resu} (h : ResusAt w ao l) (hb : Below B w w2) (hB : w.heap.size ≤ B) : ResusAt w2 ao l := h.later (hb.mono hB)
section
variable {H : Type} {enc : TypeId × Value → H} {w : World} {base : Nat} {spare : Nat → Bool} {held : Bool}
end
end Go.Proofs.Ytfdanlfiaoedfaa
