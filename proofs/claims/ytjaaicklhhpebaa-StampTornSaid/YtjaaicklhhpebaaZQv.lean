/- Leaf: an argument of the type stamp.Leaf, and of slices of it: what its cells hold. No condition. -/
import Derived.Test.YtjaaicklhhpebaaRows
import Derived.Deep.Slices
import Derived.ChangeArms
import Derived.ChangeSame
import Derived.OpenShut
import Derived.SizedLaws
import Derived.Below
import Derived.WalkKit
import Derived.KernelRfl
namespace Go.Proofs.Ytjaaicklhhpebaa
open Go.RowKit Go.ChangeShapes Go.WideShapes Go.Deep

structure Leaf where
  N : Int
  I : Int
  D : ByteArray
  deriving Inhabited
/-- Its cells. -/
def Leaf.cells (x : Leaf) : List Value := [.int .i64 x.N, .int .i64 x.I, .string x.D]
structure Leaf.Wf (x : Leaf) : Prop where
  N : -9223372036854775808 ≤ x.N ∧ x.N ≤ 9223372036854775807
  I : -9223372036854775808 ≤ x.I ∧ x.I ≤ 9223372036854775807
  D : x.D.size ≤ 140737488351232

section
variable {H : Type} {enc : TypeId × Value → H} {w : World} {base : Nat} {spare : Nat → Bool} {held : Bool}
set_option maxRecDepth 100000 in
/-- One, opened. -/
theorem leaf_open {fuel : Nat} {cs : List Value} {x : DataW H × List MemPlace} (h : DataW.trod enc Try.prog w base spare held fuel 23 cs = some x)
    (hz : ∀ n ∈ x.1.weights Try.prog 23, n ≤ reachBytes) : ∃ y : Leaf, cs = y.cells ∧ y.Wf := by
  obtain ⟨xs, m, _, hx, hlen, hxl, hf⟩ := DataW.trod_struct Try.underlying23 h
  have hC : Try.prog.cellsOf 23 = 3 := by kernel_rfl
  have hU0 : Try.prog.cellsOf 3 = 1 := by kernel_rfl
  have hU1 : Try.prog.cellsOf 9 = 1 := by kernel_rfl
  rw [hC] at hlen
  subst hx
  match cs, hlen with
  | [c0, c1, c2], _ =>
    match xs, hxl with
    | [x0, x1, x2], _ =>
      replace hz : ∀ n ∈ DataW.weightsEach Try.prog [3, 3, 9] [x0.1, x1.1, x2.1], n ≤ reachBytes := by
        intro n hn
        exact hz n (by simpa [DataW.weights, Try.underlying23] using hn)
      have f0 := hf 0 _ rfl
      simp [hU0] at f0
      have f1 := hf 1 _ rfl
      simp [hU0] at f1
      have f2 := hf 2 _ rfl
      simp [hU1] at f2
      obtain ⟨v0, e0, _, w0⟩ := DataW.trod_int Try.underlying3 f0
      simp at e0
      subst e0
      have b0 := bounds_i64 w0
      obtain ⟨v1, e1, _, w1⟩ := DataW.trod_int Try.underlying3 f1
      simp at e1
      subst e1
      have b1 := bounds_i64 w1
      obtain ⟨v2, e2, d2, _⟩ := DataW.trod_string Try.underlying9 f2
      simp at e2
      subst e2
      have z2 := hz v2.data.toList.length (DataW.weights_mem_each (j := 2) rfl rfl _ (by rw [d2]; simp [DataW.weights]))
      exact ⟨⟨v0, v1, v2⟩, rfl, ⟨b0, b1, (by have : v2.data.toList.length = v2.size := rfl; unfold reachBytes at z2; show v2.size ≤ _; omega)⟩⟩
set_option maxRecDepth 100000 in
/-- One, by value, opened. -/
theorem leafv_open {r : Reach} {b0 : Nat} {v : Value} {d : DataW H} {p : List MemPlace} (hv : Value.okWide Try.prog w r b0 23 v) (h : DataW.Trod enc Try.prog w base spare held 23 v d p)
    (hz : ∀ n ∈ d.weights Try.prog 23, n ≤ reachBytes) : ∃ y : Leaf, v = .agg y.cells.toArray ∧ y.Wf := by
  obtain ⟨cs, rfl, _⟩ := okWide_struct Try.underlying23 hv
  obtain ⟨fuel, hf⟩ := h
  obtain ⟨y, e, hy⟩ := leaf_open hf hz
  refine ⟨y, ?_, hy⟩
  have e2 : cs.toList = y.cells := e
  rw [← e2]
end

/-- A slice of them in memory. -/
structure LeafsAt (w : World) (ao : Option Addr) (l : List Leaf) : Prop where
  spot : ∀ k (h : k < l.length), ∃ b off, ao = some ⟨b, off, none⟩ ∧ b < w.heap.size ∧ ∀ j v, (l[k]).cells[j]? = some v → w.cell? ⟨b, off + k * 3 + j, none⟩ = some v
theorem LeafsAt.later {w w2 : World} {ao : Option Addr} {l : List Leaf} (h : LeafsAt w ao l) (hb : Below w.heap.size w w2) : LeafsAt w2 ao l :=
  ⟨fun k hk => by
    obtain ⟨b, off, e, hlt, hc⟩ := h.spot k hk
    exact ⟨b, off, e, Nat.lt_of_lt_of_le hlt hb.size, fun j v hj => by rw [hb.cell (p := ⟨b, off + k * 3 + j, none⟩) hlt]; exact hc j v hj⟩⟩
theorem LeafsAt.below {B : Nat} {w w2 : World} {ao : Option Addr} {l : List Leaf} (h : LeafsAt w ao l) (hb : Below B w w2) (hB : w.heap.size ≤ B) : LeafsAt w2 ao l := h.later (hb.mono hB)
section
variable {H : Type} {enc : TypeId × Value → H} {w : World} {base : Nat} {spare : Nat → Bool} {held : Bool}
end
end Go.Proofs.Ytjaaicklhhpebaa
