/- A slice of strings that came in as an argument. No condition. -/
/- Stage 5: the document's Count, Part and Number walked; the disk on which a law writes first. -/
import Derived.Test.YtgolddcmhjdmdaaRows
import Derived.Test.YtgolddcmhjdmdaaZTr
import Derived.Test.YtgolddcmhjdmdaaZQu
import Derived.Deep.Slices
import Derived.ChangeArms
import Derived.ChangeSame
import Derived.OpenShut
import Derived.SizedLaws
import Derived.Below
import Derived.WalkKit
import Derived.KernelRfl
namespace Go.Proofs.Ytgolddcmhjdmdaa
open Go.RowKit Go.ChangeShapes Go.WideShapes Go.Deep

structure StrsAt (w : World) (ao : Option Addr) (l : List ByteArray) : Prop where
  spot : ∀ k (h : k < l.length), ∃ b off, ao = some ⟨b, off, none⟩ ∧ b < w.heap.size ∧ w.cell? ⟨b, off + k, none⟩ = some (.string l[k])
theorem StrsAt.later {w w2 : World} {ao : Option Addr} {l : List ByteArray} (h : StrsAt w ao l) (hb : Below w.heap.size w w2) : StrsAt w2 ao l :=
  ⟨fun k hk => by
    obtain ⟨b, off, e, hlt, hc⟩ := h.spot k hk
    exact ⟨b, off, e, Nat.lt_of_lt_of_le hlt hb.size, by rw [hb.cell (p := ⟨b, off + k, none⟩) hlt]; exact hc⟩⟩
theorem StrsAt.below {B : Nat} {w w2 : World} {ao : Option Addr} {l : List ByteArray} (h : StrsAt w ao l) (hb : Below B w w2) (hB : w.heap.size ≤ B) : StrsAt w2 ao l := h.later (hb.mono hB)
section
variable {H : Type} {enc : TypeId × Value → H} {w : World} {base : Nat} {spare : Nat → Bool} {held : Bool}
end
end Go.Proofs.Ytgolddcmhjdmdaa
namespace Go.Proofs.Ytgolddcmhjdmdaa
open Go.RowKit Go.Sort Cr

/-- A disk behind so many of a law's writes. -/
structure St.Wet (st : St) (k : Nat) : Prop where
  len : st.safe.length = 12
  safe : ∀ s ∈ st.safe, s.size = 128
  data : ∀ w ∈ st.later, w.2.size = 128 ∧ w.1 < st.safe.length
  few : st.later.length ≤ k
  ops : 0 ≤ st.ops ∧ st.ops ≤ k
  arm : -(k : Int) ≤ st.arm ∧ st.arm ≤ 0
theorem St.Wet.mono {st : St} {j k : Nat} (h : st.Wet j) (hk : j ≤ k) : st.Wet k :=
  ⟨h.len, h.safe, h.data, by have := h.few; omega, by have := h.ops; omega, by have := h.arm; omega⟩
theorem St.Wet.room {st : St} {k n : Nat} (h : st.Wet k) (hn : k + n ≤ 1000) : st.Room n where
  safe := h.safe
  data := h.data
  many := by rw [h.len]; omega
  few := by have := h.few; omega
  ops := by have := h.ops; omega
  arm := by have := h.arm; omega
theorem St.Wet.ok {st : St} {k : Nat} (h : st.Wet k) (hk : k ≤ 1000) : st.Ok := (h.room (n := 0) (by omega)).ok
theorem St.Wet.new : (St.new 12).Wet 0 where
  len := rfl
  safe := (St.Ok.new 12).safe
  data := (St.Ok.new 12).data
  few := by simp [St.new]
  ops := by simp [St.new]
  arm := by simp [St.new]
theorem St.Wet.write {st : St} {k : Nat} (h : st.Wet k) (i : Int) (s : ByteArray) : (st.write i s).2.Wet (k + 1) := by
  unfold St.write
  by_cases hg : st.goodW i s = true
  · rw [if_pos hg]
    have ht : st.tried.Wet (k + 1) := ⟨h.len, h.safe, h.data, by have := h.few; show st.later.length ≤ _; omega, by have := h.ops; show 0 ≤ st.ops + 1 ∧ st.ops + 1 ≤ _; omega, by have := h.arm; show _ ≤ st.arm - 1 ∧ st.arm - 1 ≤ _; omega⟩
    split
    · exact ht
    · refine ⟨h.len, h.safe, fun w hw => ?_, ?_, ht.ops, ht.arm⟩
      · rcases List.mem_append.mp hw with hw | hw
        · exact h.data w hw
        · rw [List.mem_singleton.mp hw]
          unfold St.goodW at hg
          simp only [Bool.and_eq_true, decide_eq_true_eq] at hg
          exact ⟨padB_size _ hg.2, by show i.toNat < st.safe.length; have := hg.1; omega⟩
      · show (st.later ++ [(i.toNat, padB s)]).length ≤ _
        have := h.few
        rw [List.length_append, List.length_singleton]; omega
  · rw [if_neg hg]
    exact h.mono (by omega)
theorem St.Wet.sync {st : St} {k : Nat} (h : st.Wet k) : st.sync.2.Wet (k + 1) ∧ st.sync.2.later = [] := by
  unfold St.sync
  have hf := fails_calm h.arm.2
  rw [hf, if_neg (by decide)]
  refine ⟨⟨?_, ?_, fun w hw => ?_, ?_, ?_, ?_⟩, rfl⟩
  · rw [crash_length]; exact h.len
  · exact lasting_sizes _ _ _ (cutC_le 0) st.later 0 st.safe h.data h.safe
  · simp [St.crash] at hw
  · simp [St.crash]
  · have := h.ops; show 0 ≤ st.ops + 1 ∧ st.ops + 1 ≤ _; omega
  · have := h.arm; show _ ≤ st.arm - 1 ∧ st.arm - 1 ≤ _; omega
/-- What is known while it is written. -/
structure Wetting (Dk : (Nat → Prop) → World → Nat → St → Prop) (w wr : World) (p k : Nat) : Prop where
  ex : ∃ F st, Dk F wr p st ∧ st.Wet (min k 12) ∧ ∀ j, F j → w.heap.size ≤ j
  below : Below w.heap.size w wr
theorem Wetting.next {Dk : (Nat → Prop) → World → Nat → St → Prop} {w wr w2 : World} {p k : Nat} {F : Nat → Prop} {st2 : St} (hF : ∀ j, F j → w.heap.size ≤ j) (hb : Below w.heap.size w wr) (hw : st2.Wet (min (k + 1) 12)) (h : DkPost Dk F p st2 wr w2) : Wetting Dk w w2 p (k + 1) := by
  obtain ⟨F', h1, h2, h3⟩ := h
  refine ⟨⟨F', st2, h1, hw, fun j hj => ?_⟩, hb.trans (h2.to_below hb.size hF)⟩
  by_cases e : j < wr.heap.size
  · exact hF j (h3 j e hj)
  · have := hb.size; omega
end Go.Proofs.Ytgolddcmhjdmdaa
