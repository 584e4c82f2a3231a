/- The machine of stage 4: a disk of sectors as plain lists. No program. -/
import Derived.RowKit
namespace Go.Proofs.YtdphflbgecnhkaaDoor
open Go

/-- What lasts; the writes behind that, where and what; how many operations were tried; when one fails. -/
structure St where
  safe : List ByteArray
  later : List (Nat × ByteArray)
  ops : Int
  arm : Int
def zerosB (n : Nat) : ByteArray := ⟨(List.replicate n (0 : UInt8)).toArray⟩
theorem zerosB_size (n : Nat) : (zerosB n).size = n := by
  show (List.replicate n (0 : UInt8)).toArray.size = n
  simp
def St.new (n : Int) : St := ⟨List.replicate (min (max n 0) 4096).toNat (zerosB 128), [], 0, 0⟩
/-- What a sector holds. -/
def nowAt (later : List (Nat × ByteArray)) (i : Nat) (s : ByteArray) : ByteArray := later.foldl (fun s w => if w.1 = i then w.2 else s) s
def St.now (st : St) (i : Nat) : ByteArray := nowAt st.later i (st.safe.getD i ByteArray.empty)
/-- An operation is tried. -/
def St.tried (st : St) : St := { st with ops := st.ops + 1, arm := st.arm - 1 }
def St.fails (st : St) : Bool := decide (st.arm - 1 = 0)
/-- What can be: sectors of 128 bytes, writes of sectors that are there. -/
structure St.Fit (st : St) : Prop where
  safe : ∀ s ∈ st.safe, s.size = 128
  data : ∀ w ∈ st.later, w.2.size = 128 ∧ w.1 < st.safe.length
  many : st.safe.length ≤ 4096
  few : st.later.length ≤ 1000
structure St.Ok (st : St) : Prop extends St.Fit st where
  ops : 0 ≤ st.ops ∧ st.ops ≤ 1000000
  arm : -1000000 ≤ st.arm ∧ st.arm ≤ 9223372036854775807
theorem St.Fit.tried {st : St} (h : st.Fit) : st.tried.Fit := ⟨h.safe, h.data, h.many, h.few⟩
theorem St.Ok.new (n : Int) : (St.new n).Ok where
  safe := fun s hs => by rw [List.eq_of_mem_replicate hs]; exact zerosB_size 128
  data := fun w hw => by simp [St.new] at hw
  many := by simp [St.new]; omega
  few := by simp [St.new]
  ops := by simp [St.new]
  arm := by simp [St.new]
end Go.Proofs.YtdphflbgecnhkaaDoor
