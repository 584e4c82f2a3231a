/- The document's disk in memory: its cells, and its rows. No condition. -/
import Derived.Test.YtdphflbgecnhkaaDoorRows
import Derived.Test.YtdphflbgecnhkaaDoorZOnly
import Derived.Test.YtdphflbgecnhkaaDoorZPm
import Derived.WalkKit
import Derived.WalkSpells
import Derived.WalkLawsBesides
import Derived.LoopTactic
import Derived.Lib.Hide
import Derived.OneCell
import Derived.OwnWalk
import Derived.Maps.AppendAt
import Derived.Lib.AppendZeros
import Derived.Lib.MinMax
namespace Go.Proofs.YtdphflbgecnhkaaDoor
open Go.RowKit

def rowS (l : List ByteArray) : List Value := l.map Value.string
def rowI (l : List Nat) : List Value := l.map fun i => Value.int .i64 ((i : Nat) : Int)
/-- The document's disk: five cells, and three rows. -/
structure RefV (W : World) (m : Nat) (safe : List ByteArray) (ats : List Nat) (datas : List ByteArray) (ops arm : Int) (vs va vd : Value) : Prop where
  c0 : W.cell? ⟨m, 0, none⟩ = some vs
  c1 : W.cell? ⟨m, 1, none⟩ = some va
  c2 : W.cell? ⟨m, 2, none⟩ = some vd
  c3 : W.cell? ⟨m, 3, none⟩ = some (.int .i64 ops)
  c4 : W.cell? ⟨m, 4, none⟩ = some (.int .i64 arm)
  fz : ∀ j, W.frozen? ⟨m, j, none⟩ = false
  lt : m < W.heap.size
  o0 : W.ownsRow 0 9 1 vs safe.length (rowS safe)
  o1 : W.ownsRow 0 3 1 va ats.length (rowI ats)
  o2 : W.ownsRow 0 9 1 vd datas.length (rowS datas)
  d0 : vs.ownBlock ≠ some m
  d1 : va.ownBlock ≠ some m
  d2 : vd.ownBlock ≠ some m
  e0 : ∀ k, vs.ownBlock = some k → va.ownBlock ≠ some k
  e1 : ∀ k, vs.ownBlock = some k → vd.ownBlock ≠ some k
  e2 : ∀ k, va.ownBlock = some k → vd.ownBlock ≠ some k
def foot (m : Nat) (vs va vd : Value) : Nat → Prop := fun k => k = m ∨ vs.ownBlock = some k ∨ va.ownBlock = some k ∨ vd.ownBlock = some k
def RefIs (F : Nat → Prop) (W : World) (m : Nat) (st : St) : Prop := ∃ vs va vd, RefV W m st.safe (st.later.map (·.1)) (st.later.map (·.2)) st.ops st.arm vs va vd ∧ ∀ k, F k ↔ foot m vs va vd k
section
variable {W W' : World} {m : Nat} {safe : List ByteArray} {ats : List Nat} {datas : List ByteArray} {ops arm : Int} {vs va vd : Value}
theorem RefV.near (h : RefV W m safe ats datas ops arm vs va vd) : ∀ k, foot m vs va vd k → k < W.heap.size := by
  intro k hk
  rcases hk with rfl | hk | hk | hk
  · exact h.lt
  · exact (h.o0.lt k hk).2
  · exact (h.o1.lt k hk).2
  · exact (h.o2.lt k hk).2
theorem RefV.keep (h : RefV W m safe ats datas ops arm vs va vd) {G : Nat → Prop} (hO : Only G W W') (hG : ∀ k, foot m vs va vd k → ¬ G k) : RefV W' m safe ats datas ops arm vs va vd := by
  have hm : ¬ G m := hG m (.inl rfl)
  have hc : ∀ j, W'.cell? ⟨m, j, none⟩ = W.cell? ⟨m, j, none⟩ := fun j => hO.cell (p := ⟨m, j, none⟩) h.lt hm
  exact ⟨by rw [hc]; exact h.c0, by rw [hc]; exact h.c1, by rw [hc]; exact h.c2, by rw [hc]; exact h.c3, by rw [hc]; exact h.c4,
    fun j => by rw [hO.frozen (p := ⟨m, j, none⟩) h.lt hm]; exact h.fz j, Nat.lt_of_lt_of_le h.lt hO.size,
    hO.row h.o0 (fun g hg => hG g (.inr (.inl hg))), hO.row h.o1 (fun g hg => hG g (.inr (.inr (.inl hg)))), hO.row h.o2 (fun g hg => hG g (.inr (.inr (.inr hg)))),
    h.d0, h.d1, h.d2, h.e0, h.e1, h.e2⟩
theorem RefV.later (h : RefV W m safe ats datas ops arm vs va vd) (hb : Below W.heap.size W W') : RefV W' m safe ats datas ops arm vs va vd :=
  h.keep (G := fun _ => False) (Only.of_below hb) (fun _ _ e => e)
end
theorem RefIs.near {F : Nat → Prop} {W : World} {m : Nat} {st : St} (h : RefIs F W m st) : ∀ k, F k → k < W.heap.size := by
  obtain ⟨vs, va, vd, hV, hF⟩ := h
  exact fun k hk => hV.near k ((hF k).1 hk)
theorem RefIs.keep {F G : Nat → Prop} {W W' : World} {m : Nat} {st : St} (h : RefIs F W m st) (hO : Only G W W') (hG : ∀ k, F k → ¬ G k) : RefIs F W' m st := by
  obtain ⟨vs, va, vd, hV, hF⟩ := h
  exact ⟨vs, va, vd, hV.keep hO (fun k hk => hG k ((hF k).2 hk)), hF⟩
theorem RefIs.later {F : Nat → Prop} {W W' : World} {m : Nat} {st : St} (h : RefIs F W m st) (hb : Below W.heap.size W W') : RefIs F W' m st :=
  h.keep (G := fun _ => False) (Only.of_below hb) (fun _ _ e => e)
/-- What a call of it leaves. -/
def RefPost (F : Nat → Prop) (m : Nat) (st : St) (W W' : World) : Prop := ∃ F', RefIs F' W' m st ∧ Only F W W' ∧ ∀ k, k < W.heap.size → F' k → F k

end Go.Proofs.YtdphflbgecnhkaaDoor
