/- Stage 5: what is laid, and what is taken, as plain functions. Plain: no program, no condition. -/
/- Stage 5: what is taken of what was laid, behind a crash, too. Plain: no program, no condition. -/
import Derived.Test.YtdphflbgecnhkaaDoorZQp
namespace Go.Proofs.YtdphflbgecnhkaaDoor
open Go Go.RowKit Cr

theorem parts_ext {t u : ByteArray} (hs : t.size = u.size) (h : ∀ i, i < countN t.size → partS t i = partS u i) : t = u := by
  have key : ∀ k, k ≤ countN t.size → t.extract 0 (min (104 * k) t.size) = u.extract 0 (min (104 * k) u.size) := by
    intro k
    induction k with
    | zero =>
      intro _
      rw [Nat.mul_zero, Nat.zero_min, Nat.zero_min]
      exact (ByteArray.extract_eq_empty_iff.mpr (by omega)).trans (ByteArray.extract_eq_empty_iff.mpr (by omega)).symm
    | succ k ih => intro hk; rw [← part_join, ← part_join, ih (by omega), h k (by omega)]
  have e := key _ (Nat.le_refl _)
  rw [part_all t, hs, part_all u] at e
  exact e
/-- The text whose parts the sectors are. -/
def TakeIs (get : Nat → ByteArray) (N : Int) (size : Nat) (t : ByteArray) : Prop := t.size = size ∧ ∀ i, i < countN size → leafOf (get i) = some (N, ((i : Nat) : Int), partS t i)
theorem TakeIs.one {get : Nat → ByteArray} {N : Int} {size : Nat} {t u : ByteArray} (h : TakeIs get N size t) (k : TakeIs get N size u) : t = u := by
  refine parts_ext (h.1.trans k.1.symm) (fun i hi => ?_)
  rw [h.1] at hi
  have := (h.2 i hi).symm.trans (k.2 i hi)
  injection this with e
  injection e with _ e
  injection e
open Classical in
noncomputable def takeOf (get : Nat → ByteArray) (N : Int) (size : Nat) : Option ByteArray := if h : ∃ t, TakeIs get N size t then some h.choose else none
/-- What Take answers of a disk. -/
def takePlace (st : St) (fr upto : Int) (size : Int) : Prop := 0 ≤ fr ∧ fr ≤ upto ∧ upto ≤ ((st.safe.length : Nat) : Int) ∧ 0 ≤ size ∧ ((countN size.toNat : Nat) : Int) ≤ upto - fr
open Classical in
noncomputable def St.take (st : St) (fr upto N size : Int) : Option ByteArray := if takePlace st fr upto size then takeOf (fun i => st.now (fr.toNat + i)) N size.toNat else none
/-- There is room for so many writes. -/
structure St.Room (st : St) (n : Nat) : Prop where
  safe : ∀ s ∈ st.safe, s.size = 128
  data : ∀ w ∈ st.later, w.2.size = 128 ∧ w.1 < st.safe.length
  many : st.safe.length ≤ 4096
  few : st.later.length + n ≤ 1000
  ops : 0 ≤ st.ops ∧ st.ops + n ≤ 1000000
  arm : -1000000 + (n : Int) ≤ st.arm ∧ st.arm ≤ 9223372036854775807
theorem St.Room.ok {st : St} {n : Nat} (h : st.Room n) : st.Ok where
  safe := h.safe
  data := h.data
  many := h.many
  few := by have := h.few; omega
  ops := by have := h.ops; omega
  arm := by have := h.arm; omega
end Go.Proofs.YtdphflbgecnhkaaDoor
namespace Go.Proofs.YtdphflbgecnhkaaDoor
open Go Go.RowKit Cr

theorem part_ok {N : Int} (h0 : 1 ≤ N) (h1 : N ≤ 1152921504606846976) (s : ByteArray) (i : Nat) (hi : i < 4096) : LeafOk N ((i : Nat) : Int) (partS s i) := ⟨⟨h0, h1⟩, by omega, partS_le s i⟩
end Go.Proofs.YtdphflbgecnhkaaDoor
