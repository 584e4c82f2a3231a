/- Place: an argument of the type shelf.Place, and of slices of it: what its cells hold. No condition. -/
import Derived.Test.YtdphflbgecnhkaaDoorRows
import Derived.Deep.Slices
import Derived.ChangeArms
import Derived.ChangeSame
import Derived.OpenShut
import Derived.SizedLaws
import Derived.Below
import Derived.WalkKit
import Derived.KernelRfl
namespace Go.Proofs.YtdphflbgecnhkaaDoor
open Go.RowKit Go.ChangeShapes Go.WideShapes Go.Deep

structure Place where
  Good : ByteArray
  Site : ByteArray
  State : Int
  deriving Inhabited
/-- Its cells. -/
def Place.cells (x : Place) : List Value := [.string x.Good, .string x.Site, .int .i64 x.State]
theorem Place.cells_length (x : Place) : x.cells.length = 3 := rfl
structure Place.Wf (x : Place) : Prop where
  Good : x.Good.size ≤ 140737488351232
  Site : x.Site.size ≤ 140737488351232
  State : -9223372036854775808 ≤ x.State ∧ x.State ≤ 9223372036854775807

section
variable {H : Type} {enc : TypeId × Value → H} {w : World} {base : Nat} {spare : Nat → Bool} {held : Bool}
set_option maxRecDepth 100000 in
/-- One, opened. -/
theorem place_open {fuel : Nat} {cs : List Value} {x : DataW H × List MemPlace} (h : DataW.trod enc Tryd.prog w base spare held fuel 23 cs = some x)
    (hz : ∀ n ∈ x.1.weights Tryd.prog 23, n ≤ reachBytes) : ∃ y : Place, cs = y.cells ∧ y.Wf := by
  obtain ⟨xs, m, _, hx, hlen, hxl, hf⟩ := DataW.trod_struct Tryd.underlying23 h
  have hC : Tryd.prog.cellsOf 23 = 3 := by kernel_rfl
  have hU0 : Tryd.prog.cellsOf 3 = 1 := by kernel_rfl
  have hU1 : Tryd.prog.cellsOf 9 = 1 := by kernel_rfl
  rw [hC] at hlen
  subst hx
  match cs, hlen with
  | [c0, c1, c2], _ =>
    match xs, hxl with
    | [x0, x1, x2], _ =>
      replace hz : ∀ n ∈ DataW.weightsEach Tryd.prog [9, 9, 3] [x0.1, x1.1, x2.1], n ≤ reachBytes := by
        intro n hn
        exact hz n (by simpa [DataW.weights, Tryd.underlying23] using hn)
      have f0 := hf 0 _ rfl
      simp [hU1] at f0
      have f1 := hf 1 _ rfl
      simp [hU1] at f1
      have f2 := hf 2 _ rfl
      simp [hU0] at f2
      obtain ⟨v0, e0, d0, _⟩ := DataW.trod_string Tryd.underlying9 f0
      simp at e0
      subst e0
      have z0 := hz v0.data.toList.length (DataW.weights_mem_each (j := 0) rfl rfl _ (by rw [d0]; simp [DataW.weights]))
      obtain ⟨v1, e1, d1, _⟩ := DataW.trod_string Tryd.underlying9 f1
      simp at e1
      subst e1
      have z1 := hz v1.data.toList.length (DataW.weights_mem_each (j := 1) rfl rfl _ (by rw [d1]; simp [DataW.weights]))
      obtain ⟨v2, e2, _, w2⟩ := DataW.trod_int Tryd.underlying3 f2
      simp at e2
      subst e2
      have b2 := bounds_i64 w2
      exact ⟨⟨v0, v1, v2⟩, rfl, ⟨(by have : v0.data.toList.length = v0.size := rfl; unfold reachBytes at z0; show v0.size ≤ _; omega), (by have : v1.data.toList.length = v1.size := rfl; unfold reachBytes at z1; show v1.size ≤ _; omega), b2⟩⟩
set_option maxRecDepth 100000 in
/-- One, by value, opened. -/
theorem placev_open {r : Reach} {b0 : Nat} {v : Value} {d : DataW H} {p : List MemPlace} (hv : Value.okWide Tryd.prog w r b0 23 v) (h : DataW.Trod enc Tryd.prog w base spare held 23 v d p)
    (hz : ∀ n ∈ d.weights Tryd.prog 23, n ≤ reachBytes) : ∃ y : Place, v = .agg y.cells.toArray ∧ y.Wf := by
  obtain ⟨cs, rfl, _⟩ := okWide_struct Tryd.underlying23 hv
  obtain ⟨fuel, hf⟩ := h
  obtain ⟨y, e, hy⟩ := place_open hf hz
  refine ⟨y, ?_, hy⟩
  have e2 : cs.toList = y.cells := e
  rw [← e2]
end

/-- A slice of them in memory. -/
structure PlacesAt (w : World) (ao : Option Addr) (l : List Place) : Prop where
  spot : ∀ k (h : k < l.length), ∃ b off, ao = some ⟨b, off, none⟩ ∧ b < w.heap.size ∧ ∀ j v, (l[k]).cells[j]? = some v → w.cell? ⟨b, off + k * 3 + j, none⟩ = some v
theorem PlacesAt.later {w w2 : World} {ao : Option Addr} {l : List Place} (h : PlacesAt w ao l) (hb : Below w.heap.size w w2) : PlacesAt w2 ao l :=
  ⟨fun k hk => by
    obtain ⟨b, off, e, hlt, hc⟩ := h.spot k hk
    exact ⟨b, off, e, Nat.lt_of_lt_of_le hlt hb.size, fun j v hj => by rw [hb.cell (p := ⟨b, off + k * 3 + j, none⟩) hlt]; exact hc j v hj⟩⟩
theorem PlacesAt.below {B : Nat} {w w2 : World} {ao : Option Addr} {l : List Place} (h : PlacesAt w ao l) (hb : Below B w w2) (hB : w.heap.size ≤ B) : PlacesAt w2 ao l := h.later (hb.mono hB)
section
variable {H : Type} {enc : TypeId × Value → H} {w : World} {base : Nat} {spare : Nat → Bool} {held : Bool}
end
end Go.Proofs.YtdphflbgecnhkaaDoor
