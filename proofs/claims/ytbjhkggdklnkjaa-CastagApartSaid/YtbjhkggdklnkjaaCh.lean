/- What CastagHolds' walk asks of the landed Holds. -/
import Derived.Test.YtbjhkggdklnkjaaCl
namespace Go.Proofs.Ytbjhkggdklnkjaa
open Go.RowKit Go.Sort Cr

/-- Whether a text's last four bytes are the sum of what is ahead of them. -/
def holdsB (s : ByteArray) : Bool := decide (4 ≤ s.size) && ((fourT (sumC 0 (bytesC (s.extract 0 (s.size - 4))))).toList == (s.extract (s.size - 4) s.size).toList)
theorem holds_own (s : ByteArray) : holdsB (s ++ fourT (sumC 0 (bytesC s))) = true := by
  unfold holdsB
  have e : (s ++ fourT (sumC 0 (bytesC s))).size - 4 = s.size := by rw [ByteArray.size_append, fourT_size]; omega
  have e1 : (s ++ fourT (sumC 0 (bytesC s))).extract 0 s.size = s := ByteArray.extract_append_eq_left rfl
  have e2 : (s ++ fourT (sumC 0 (bytesC s))).extract s.size (s ++ fourT (sumC 0 (bytesC s))).size = fourT (sumC 0 (bytesC s)) := by
    rw [ByteArray.size_append]; exact ByteArray.extract_append_eq_right rfl rfl
  rw [e, e1, e2]
  rw [decide_eq_true (by rw [ByteArray.size_append, fourT_size]; omega)]
  simp
/-- The landed Holds' contract. -/
structure LandedHolds (L : World → Prop) : Prop where
  holds : ∀ s : ByteArray, s.size ≤ 2056 → ∀ w, L w →
    Calls Try.prog 14 #[.string s] w fun e w' => e = .returned (.bool (holdsB s)) ∧ Below w.heap.size w w'

theorem refsum0 (s : ByteArray) (hm : s.size ≤ 4096) (w : World) :
    Calls Try.prog 12 #[.int .u32 0, .string s] w fun e w' => e = .returned (.int .u32 ((sumC 0 (bytesC s) : Nat) : Int)) ∧ w = w' :=
  refsum_any 0 (by rw [W_eq]; decide) s hm w
end Go.Proofs.Ytbjhkggdklnkjaa
