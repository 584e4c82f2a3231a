/- TapePuts' walk, out of the landed contracts. -/
/- TapeCuts' walk, out of the landed contracts. -/
/- TapeTakes' walk, out of the landed contracts. -/
import Derived.Test.YtdphflbgecnhkaaDoorZTq
import Derived.RegionTactic
import Derived.Deep.RegionHeld3
import Derived.OwnWalk
import Derived.Lib.AppendZeros
namespace Go.Proofs.YtdphflbgecnhkaaDoor
open Go.RowKit Wm

/-- What is known while items are read. -/
structure Reading (Rd : (Nat → Prop) → World → Nat → Option ByteArray → Prop) (w wr : World) (p : Nat) (st : Option ByteArray) : Prop where
  own : ∃ F : Nat → Prop, Rd F wr p st ∧ ∀ j, F j → w.heap.size ≤ j
  below : Below w.heap.size w wr
theorem Reading.next {Rd : (Nat → Prop) → World → Nat → Option ByteArray → Prop} {w wx w2 : World} {p : Nat} {F : Nat → Prop} {st : Option ByteArray} (hF : ∀ j, F j → w.heap.size ≤ j)
    (hb : Below w.heap.size w wx) (h : RdPost Rd F p st wx w2) : Reading Rd w w2 p st := by
  obtain ⟨F', h1, h2, h4⟩ := h
  refine ⟨⟨F', h1, fun j hj => ?_⟩, hb.trans (h2.to_below hb.size hF)⟩
  by_cases hlt : j < wx.heap.size
  · exact hF j (h4 j hlt hj)
  · have := hb.size; omega
end Go.Proofs.YtdphflbgecnhkaaDoor
namespace Go.Proofs.YtdphflbgecnhkaaDoor
open Go.RowKit Wm

theorem Reading.step {Rd : (Nat → Prop) → World → Nat → Option ByteArray → Prop} (R : LandedRd Rd) {w wx w2 w3 : World} {p : Nat} {F : Nat → Prop} {st : Option ByteArray} (hF : ∀ j, F j → w.heap.size ≤ j)
    (hb : Below w.heap.size w wx) (h : RdPost Rd F p st wx w2) (h3 : Below w2.heap.size w2 w3) : Reading Rd w w3 p st := Reading.next hF hb (h.later R h3)
end Go.Proofs.YtdphflbgecnhkaaDoor
namespace Go.Proofs.YtdphflbgecnhkaaDoor
open Go.RowKit Wm

theorem digits_valL : ∀ (l : List Nat), (∀ b ∈ l, b < 256) → (List.range l.length).map (fun j => valL l / 256 ^ j % 256) = l
  | [], _ => rfl
  | b :: r, h => by
    have ih := digits_valL r (fun x hx => h x (List.mem_cons_of_mem _ hx))
    have hb := h b (List.mem_cons_self ..)
    rw [List.length_cons, List.range_succ_eq_map, List.map_cons, List.map_map, valL]
    congr 1
    · rw [Nat.pow_zero, Nat.div_one]; omega
    · conv => rhs; rw [← ih]
      apply List.map_congr_left
      intro j _
      show (b + 256 * valL r) / 256 ^ (j + 1) % 256 = _
      rw [Nat.pow_succ, Nat.mul_comm (256 ^ j), ← Nat.div_div_eq_div_mul, show (b + 256 * valL r) / 256 = valL r by omega]
theorem bytesN_inj {s t : ByteArray} (h : bytesN s = bytesN t) : s = t := by
  unfold bytesN at h
  have := List.map_inj_right (f := UInt8.toNat) (fun a b e => UInt8.toNat_inj.mp e) |>.mp h
  exact ByteArray.ext (Array.toList_inj.mp this)
theorem numB_valL (s : ByteArray) (h : s.size = 16) : numB (valL (bytesN s)) = s := by
  apply bytesN_inj
  rw [show numB (valL (bytesN s)) = textP (valL (bytesN s)) 16 from rfl, bytesN_textP]
  have := digits_valL (bytesN s) (bytesN_lt s)
  rw [bytesN_length, h] at this
  exact this

end Go.Proofs.YtdphflbgecnhkaaDoor
