/- A slice of strings that came in as an argument. No condition. -/
/- Stage 5: the document's Count, Part and Number walked; the disk on which a law writes first. -/
import Derived.Test.YtdphflbgecnhkaaDoorRows
import Derived.Test.YtdphflbgecnhkaaDoorZTl
import Derived.Test.YtdphflbgecnhkaaDoorZQf
import Derived.Test.YtdphflbgecnhkaaDoorZGb
import Derived.Deep.Slices
import Derived.ChangeArms
import Derived.ChangeSame
import Derived.OpenShut
import Derived.SizedLaws
import Derived.Below
import Derived.WalkKit
import Derived.KernelRfl
import Derived.Laws.StructEq
namespace Go.Proofs.YtdphflbgecnhkaaDoor
open Go.RowKit Go.ChangeShapes Go.WideShapes Go.Deep

structure StrsAt (w : World) (ao : Option Addr) (l : List ByteArray) : Prop where
  spot : ∀ k (h : k < l.length), ∃ b off, ao = some ⟨b, off, none⟩ ∧ b < w.heap.size ∧ w.cell? ⟨b, off + k, none⟩ = some (.string l[k])
theorem StrsAt.later {w w2 : World} {ao : Option Addr} {l : List ByteArray} (h : StrsAt w ao l) (hb : Below w.heap.size w w2) : StrsAt w2 ao l :=
  ⟨fun k hk => by
    obtain ⟨b, off, e, hlt, hc⟩ := h.spot k hk
    exact ⟨b, off, e, Nat.lt_of_lt_of_le hlt hb.size, by rw [hb.cell (p := ⟨b, off + k, none⟩) hlt]; exact hc⟩⟩
theorem StrsAt.below {B : Nat} {w w2 : World} {ao : Option Addr} {l : List ByteArray} (h : StrsAt w ao l) (hb : Below B w w2) (hB : w.heap.size ≤ B) : StrsAt w2 ao l := h.later (hb.mono hB)
section
variable {H : Type} {enc : TypeId × Value → H} {w : World} {base : Nat} {spare : Nat → Bool} {held : Bool}
end
end Go.Proofs.YtdphflbgecnhkaaDoor
namespace Go.Proofs.YtdphflbgecnhkaaDoor
open Go.RowKit Go.Sort Cr

/-- A disk behind so many of a law's writes. -/
structure St.Wet (st : St) (k : Nat) : Prop where
  len : st.safe.length = 12
  safe : ∀ s ∈ st.safe, s.size = 128
  data : ∀ w ∈ st.later, w.2.size = 128 ∧ w.1 < st.safe.length
  few : st.later.length ≤ k
  ops : 0 ≤ st.ops ∧ st.ops ≤ k
  arm : -(k : Int) ≤ st.arm ∧ st.arm ≤ 0
theorem St.Wet.mono {st : St} {j k : Nat} (h : st.Wet j) (hk : j ≤ k) : st.Wet k :=
  ⟨h.len, h.safe, h.data, by have := h.few; omega, by have := h.ops; omega, by have := h.arm; omega⟩
theorem St.Wet.room {st : St} {k n : Nat} (h : st.Wet k) (hn : k + n ≤ 1000) : st.Room n where
  safe := h.safe
  data := h.data
  many := by rw [h.len]; omega
  few := by have := h.few; omega
  ops := by have := h.ops; omega
  arm := by have := h.arm; omega
theorem St.Wet.ok {st : St} {k : Nat} (h : st.Wet k) (hk : k ≤ 1000) : st.Ok := (h.room (n := 0) (by omega)).ok
theorem St.Wet.new : (St.new 12).Wet 0 where
  len := rfl
  safe := (St.Ok.new 12).safe
  data := (St.Ok.new 12).data
  few := by simp [St.new]
  ops := by simp [St.new]
  arm := by simp [St.new]
/-- What is known while it is written. -/
structure Wetting (Dk : (Nat → Prop) → World → Nat → St → Prop) (w wr : World) (p k : Nat) : Prop where
  ex : ∃ F st, Dk F wr p st ∧ st.Wet (min k 12) ∧ ∀ j, F j → w.heap.size ≤ j
  below : Below w.heap.size w wr
theorem Wetting.next {Dk : (Nat → Prop) → World → Nat → St → Prop} {w wr w2 : World} {p k : Nat} {F : Nat → Prop} {st2 : St} (hF : ∀ j, F j → w.heap.size ≤ j) (hb : Below w.heap.size w wr) (hw : st2.Wet (min (k + 1) 12)) (h : DkPost Dk F p st2 wr w2) : Wetting Dk w w2 p (k + 1) := by
  obtain ⟨F', h1, h2, h3⟩ := h
  refine ⟨⟨F', st2, h1, hw, fun j hj => ?_⟩, hb.trans (h2.to_below hb.size hF)⟩
  by_cases e : j < wr.heap.size
  · exact hF j (h3 j e hj)
  · have := hb.size; omega
end Go.Proofs.YtdphflbgecnhkaaDoor
