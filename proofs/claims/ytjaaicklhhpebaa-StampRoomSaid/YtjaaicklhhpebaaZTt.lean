/- TapePuts' walk, out of the landed contracts. -/
/- TapeCuts' walk, out of the landed contracts. -/
/- TapeTakes' walk, out of the landed contracts. -/
import Derived.Test.YtjaaicklhhpebaaZTq
import Derived.RegionTactic
import Derived.Deep.RegionHeld3
import Derived.OwnWalk
import Derived.Lib.AppendZeros
namespace Go.Proofs.Ytjaaicklhhpebaa
open Go.RowKit Wm

/-- What is known while items are read. -/
structure Reading (Rd : (Nat → Prop) → World → Nat → Option ByteArray → Prop) (w wr : World) (p : Nat) (st : Option ByteArray) : Prop where
  own : ∃ F : Nat → Prop, Rd F wr p st ∧ ∀ j, F j → w.heap.size ≤ j
  below : Below w.heap.size w wr
theorem Reading.next {Rd : (Nat → Prop) → World → Nat → Option ByteArray → Prop} {w wx w2 : World} {p : Nat} {F : Nat → Prop} {st : Option ByteArray} (hF : ∀ j, F j → w.heap.size ≤ j)
    (hb : Below w.heap.size w wx) (h : RdPost Rd F p st wx w2) : Reading Rd w w2 p st := by
  obtain ⟨F', h1, h2, h4⟩ := h
  refine ⟨⟨F', h1, fun j hj => ?_⟩, hb.trans (h2.to_below hb.size hF)⟩
  by_cases hlt : j < wx.heap.size
  · exact hF j (h4 j hlt hj)
  · have := hb.size; omega
end Go.Proofs.Ytjaaicklhhpebaa
namespace Go.Proofs.Ytjaaicklhhpebaa
open Go.RowKit Wm

theorem Reading.step {Rd : (Nat → Prop) → World → Nat → Option ByteArray → Prop} (R : LandedRd Rd) {w wx w2 w3 : World} {p : Nat} {F : Nat → Prop} {st : Option ByteArray} (hF : ∀ j, F j → w.heap.size ≤ j)
    (hb : Below w.heap.size w wx) (h : RdPost Rd F p st wx w2) (h3 : Below w2.heap.size w2 w3) : Reading Rd w w3 p st := Reading.next hF hb (h.later R h3)
end Go.Proofs.Ytjaaicklhhpebaa
namespace Go.Proofs.Ytjaaicklhhpebaa
open Go.RowKit Wm

theorem part_some (rem : ByteArray) (m : Nat) (h : m ≤ rem.size) : rdPart (some rem) ((m : Nat) : Int) = rem.extract 0 m := by
  unfold rdPart; dsimp only; rw [if_pos (by omega), Int.toNat_natCast]
theorem next_some (rem : ByteArray) (m : Nat) (h : m ≤ rem.size) : rdNext (some rem) ((m : Nat) : Int) = some (rem.extract m rem.size) := by
  unfold rdNext; dsimp only; rw [if_pos (by omega), Int.toNat_natCast]
end Go.Proofs.Ytjaaicklhhpebaa
