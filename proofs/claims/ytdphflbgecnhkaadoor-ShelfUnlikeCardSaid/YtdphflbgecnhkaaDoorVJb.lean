/- Stage 6: a journal's state, and what adding makes of it and of the disk. Plain: no program, no condition. -/
import Derived.Test.YtdphflbgecnhkaaDoorVQf
import Derived.Test.YtdphflbgecnhkaaDoorVJa
import Derived.Test.YtdphflbgecnhkaaDoorVQe
namespace Go.Proofs.YtdphflbgecnhkaaDoor
open Go Go.RowKit Cr

/-- From where, to where, the next place, the last record's number, sick? -/
structure JSt where
  fr : Nat
  upto : Nat
  spot : Nat
  seq : Int
  sick : Bool
def JSt.room (js : JSt) (n : Int) : Bool := decide (0 ≤ n) && decide (n ≤ 32768) && decide (((js.spot + cntR n.toNat : Nat) : Int) ≤ (js.upto : Int))
/-- What can be. -/
structure JSt.Ok (js : JSt) (st : St) : Prop where
  fr : js.fr ≤ js.spot
  spot : js.spot ≤ js.upto
  upto : js.upto ≤ st.safe.length
  seq : 0 ≤ js.seq ∧ js.seq < 1152921504606846976
/-- A disk without unsynced writes, on which nothing is armed, behind so many operations. -/
structure St.Dry (st : St) (n k : Nat) : Prop where
  len : st.safe.length = n
  safe : ∀ s ∈ st.safe, s.size = 128
  later : st.later = []
  ops : 0 ≤ st.ops ∧ st.ops ≤ k
  arm : -(k : Int) ≤ st.arm ∧ st.arm ≤ 0
theorem St.Dry.mono {st : St} {n j k : Nat} (h : st.Dry n j) (hk : j ≤ k) : st.Dry n k := ⟨h.len, h.safe, h.later, by have := h.ops; omega, by have := h.arm; omega⟩
theorem St.Dry.room {st : St} {n k m : Nat} (h : st.Dry n k) (hn : n ≤ 4096) (hm : m ≤ 1000) (hk : k + m ≤ 1000000) : st.Room m where
  safe := h.safe
  data := fun w hw => by rw [h.later] at hw; simp at hw
  many := by rw [h.len]; omega
  few := by rw [h.later]; simp; omega
  ops := by have := h.ops; omega
  arm := by have := h.arm; omega
theorem St.Dry.ok {st : St} {n k : Nat} (h : st.Dry n k) (hn : n ≤ 4096) (hk : k ≤ 1000000) : st.Ok := (h.room (m := 0) hn (by omega) (by omega)).ok
theorem St.Dry.new (n : Nat) (hn : n ≤ 4096) : (St.new (n : Int)).Dry n 0 where
  len := by
    have : (min (max (n : Int) 0) 4096).toNat = n := by omega
    show (List.replicate (min (max (n : Int) 0) 4096).toNat (zerosB 128)).length = n
    rw [List.length_replicate, this]
  safe := (St.Ok.new n).safe
  later := rfl
  ops := by simp [St.new]
  arm := by simp [St.new]
end Go.Proofs.YtdphflbgecnhkaaDoor
