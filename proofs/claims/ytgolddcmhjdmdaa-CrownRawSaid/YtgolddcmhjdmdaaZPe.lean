/- PlatterDoes' walk, out of the landed contracts. -/
import Derived.Test.YtgolddcmhjdmdaaZPl
namespace Go.Proofs.Ytgolddcmhjdmdaa
open Go.RowKit Go.Sort

/-- A disk behind so many steps. -/
structure St.OkN (st : St) (k : Nat) : Prop where
  safe : ∀ s ∈ st.safe, s.size = 128
  data : ∀ w ∈ st.later, w.2.size = 128 ∧ w.1 < st.safe.length
  many : st.safe.length ≤ 4096
  few : st.later.length ≤ k
  ops : 0 ≤ st.ops ∧ st.ops ≤ k
  arm : -(k : Int) ≤ st.arm ∧ st.arm ≤ 9223372036854775807
theorem St.OkN.ok {st : St} {k : Nat} (h : st.OkN k) (hk : k ≤ 1000) : st.Ok where
  safe := h.safe
  data := h.data
  many := h.many
  few := by have := h.few; omega
  ops := by have := h.ops; omega
  arm := by have := h.arm; omega
theorem St.OkN.new (n : Int) : (St.new n).OkN 0 where
  safe := (St.Ok.new n).safe
  data := (St.Ok.new n).data
  many := (St.Ok.new n).many
  few := by simp [St.new]
  ops := by simp [St.new]
  arm := by simp [St.new]
theorem St.OkN.tried {st : St} {k : Nat} (h : st.OkN k) : st.tried.OkN (k + 1) where
  safe := h.safe
  data := h.data
  many := h.many
  few := by have := h.few; show st.later.length ≤ k + 1; omega
  ops := by have := h.ops; show 0 ≤ st.ops + 1 ∧ st.ops + 1 ≤ ((k + 1 : Nat) : Int); omega
  arm := by have := h.arm; show -((k + 1 : Nat) : Int) ≤ st.arm - 1 ∧ st.arm - 1 ≤ _; omega
theorem St.OkN.mono {st : St} {k j : Nat} (h : st.OkN k) (hj : k ≤ j) : st.OkN j where
  safe := h.safe
  data := h.data
  many := h.many
  few := by have := h.few; omega
  ops := by have := h.ops; omega
  arm := by have := h.arm; omega
theorem St.OkN.crash {st : St} {k : Nat} (h : st.OkN k) (mask : Nat) (torn cut : Int) : (st.crash mask torn cut).OkN k where
  safe := lasting_sizes mask torn _ (cutC_le cut) st.later 0 st.safe h.data h.safe
  data := fun w hw => by simp [St.crash] at hw
  many := by rw [crash_length]; exact h.many
  few := by simp [St.crash]
  ops := h.ops
  arm := h.arm
theorem St.OkN.armed {st : St} {k : Nat} (h : st.OkN k) (n : Int) (hn : n ≤ 9223372036854775807) : (st.armed n).OkN k where
  safe := h.safe
  data := h.data
  many := h.many
  few := h.few
  ops := h.ops
  arm := by show -(k : Int) ≤ max n 0 ∧ max n 0 ≤ _; omega
theorem St.OkN.write {st : St} {k : Nat} (h : st.OkN k) (i : Int) (s : ByteArray) : (st.write i s).2.OkN (k + 1) := by
  unfold St.write
  split
  · rename_i hg
    unfold St.goodW at hg
    simp at hg
    obtain ⟨⟨h1, h2⟩, h3⟩ := hg
    split
    · exact h.tried
    · have ht := h.tried
      exact ⟨ht.safe, fun w hw => by
        rcases List.mem_append.mp hw with hw | hw
        · exact h.data w hw
        · rw [List.mem_singleton] at hw
          subst hw
          exact ⟨padB_size s h3, by show i.toNat < st.safe.length; omega⟩, ht.many, by have := h.few; show (st.later ++ _).length ≤ _; rw [List.length_append]; simp; omega, ht.ops, ht.arm⟩
  · exact h.mono (by omega)
theorem St.OkN.sync {st : St} {k : Nat} (h : st.OkN k) : st.sync.2.OkN (k + 1) := by
  unfold St.sync
  split
  · exact h.tried
  · exact h.tried.crash _ _ _
theorem St.OkN.crashed {st : St} {k : Nat} (h : st.OkN k) (mask : Nat) (torn cut : Int) : (st.crashed mask torn cut).OkN k := by
  have hc := h.crash mask torn cut
  exact ⟨hc.safe, hc.data, hc.many, hc.few, hc.ops, by show -(k : Int) ≤ 0 ∧ (0 : Int) ≤ _; omega⟩
theorem St.OkN.call {st : St} {k : Nat} (h : st.OkN k) {c : Call} (hc : c.Wf) : (callSt st c).OkN (k + 1) := by
  unfold callSt
  split
  · exact h.write _ _
  · split
    · exact h.sync
    · split
      · exact (h.crashed _ _ _).mono (by omega)
      · split
        · exact (h.armed _ hc.n.2).mono (by omega)
        · exact h.mono (by omega)
/-- What is known while a script is played on both. -/
structure Playing (Dk : (Nat → Prop) → World → Nat → St → Prop) (w wr : World) (p m k : Nat) (st : St) : Prop where
  ex : ∃ F G, Pair Dk F G wr p m st ∧ (∀ j, F j → w.heap.size ≤ j) ∧ ∀ j, G j → w.heap.size ≤ j
  ok : st.OkN k
  below : Below w.heap.size w wr
theorem Playing.next {Dk : (Nat → Prop) → World → Nat → St → Prop} (K : LandedDk Dk) {w wx w2 w3 : World} {p m k : Nat} {st : St} {F G : Nat → Prop} (hF : ∀ j, F j → w.heap.size ≤ j) (hG : ∀ j, G j → w.heap.size ≤ j)
    (hb : Below w.heap.size w wx) (ho : st.OkN k) (h : PairPost Dk F G p m st wx w2) (h3 : Below w2.heap.size w2 w3) : Playing Dk w w3 p m k st := by
  obtain ⟨F', G', h1, h2, h4, h5⟩ := h
  have hs := hb.size
  refine ⟨⟨F', G', h1.later K h3, fun j hj => ?_, fun j hj => ?_⟩, ho, (hb.trans (h2.to_below hs (fun j hj => hj.elim (hF j) (hG j)))).trans (h3.mono (by have := h2.size; omega))⟩
  · by_cases e : j < wx.heap.size
    · exact hF j (h4 j e hj)
    · omega
  · by_cases e : j < wx.heap.size
    · exact hG j (h5 j e hj)
    · omega
end Go.Proofs.Ytgolddcmhjdmdaa
