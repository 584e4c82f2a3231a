/- A row of one's own as a slice; append whose run is known, and a plain step, in a region that draws. Plain, over whatever program. No condition. -/
/- The document's disk: a crash, and a sync. No condition but sizes. -/
import Derived.Test.YtdphflbgecnhkaaDoorZPr
import Derived.Below
import Derived.Laws.AppendOwn
import Derived.Deep.RegionLaw
import Derived.WalkKit
import Derived.OwnWalk
import Derived.Lib.AppendZeros
import Derived.BigRegion
import Derived.Laws.BitsAllLaws
import Derived.RegionTactic
namespace Go.Proofs.YtdphflbgecnhkaaDoor
open Go.RowKit

theorem row_slice {W : World} {base : Nat} {e : TypeId} {v : Value} {n : Nat} {xs : List Value} (h : W.ownsRow base e 1 v n xs) :
    ∃ ao cap, v = .slice ao n cap ∧ ∀ j, j < n → ∃ g x, ao = some ⟨g, 0, none⟩ ∧ g < W.heap.size ∧ xs[j]? = some x ∧ W.cell? ⟨g, j, none⟩ = some x ∧ W.frozen? ⟨g, j, none⟩ = false := by
  have hl := h.1
  rw [Nat.mul_one] at hl
  rcases h.2 with ⟨rfl, rfl⟩ | ⟨g, cap, cur, rfl, hb, hh, _⟩
  · exact ⟨none, 0, rfl, fun j hj => by omega⟩
  · refine ⟨_, cap, rfl, fun j hj => ⟨g, xs[j], rfl, (h.lt g rfl).2, List.getElem?_eq_getElem (by omega), ?_, h.frozenAt j⟩⟩
    have := h.cells (g := g) rfl j xs[j] (List.getElem?_eq_getElem (by omega))
    unfold Addr.add at this
    split at this
    · rename_i h0; subst h0; exact this
    · rw [Nat.zero_add] at this; exact this
end Go.Proofs.YtdphflbgecnhkaaDoor
namespace Go.Proofs.YtdphflbgecnhkaaDoor
open Go.RowKit

theorem RefV.store {W : World} {m : Nat} {safe : List ByteArray} {ats : List Nat} {datas : List ByteArray} {ops arm : Int} {g n cap : Nat} {va vd : Value} (h : RefV W m safe ats datas ops arm (.slice (some ⟨g, 0, none⟩) n cap) va vd) (hn : n = safe.length) (j : Nat) (x : ByteArray) :
    RefV (W.setCell ⟨g, j, none⟩ (.string x)) m (safe.set j x) ats datas ops arm (.slice (some ⟨g, 0, none⟩) n cap) va vd := by
  subst hn
  have hgm : g ≠ m := fun e => h.d0 (by rw [e]; rfl)
  have hc : ∀ i, (W.setCell ⟨g, j, none⟩ (.string x)).cell? ⟨m, i, none⟩ = W.cell? ⟨m, i, none⟩ := fun i => by
    rw [World.cell?_setCell_other]
    intro e; injection e with e1 _ _; exact hgm e1
  have e : rowS (safe.set j x) = (rowS safe).set j (.string x) := by unfold rowS; rw [List.map_set]
  exact ⟨by rw [hc]; exact h.c0, by rw [hc]; exact h.c1, by rw [hc]; exact h.c2, by rw [hc]; exact h.c3, by rw [hc]; exact h.c4,
    fun i => by simpa using h.fz i, by simpa using h.lt, by rw [List.length_set, e]; exact (h.o0.stored j _).1,
    ownsRow_setCell_other h.o1 (h.e0 g rfl) _, ownsRow_setCell_other h.o2 (h.e1 g rfl) _, h.d0, h.d1, h.d2, h.e0, h.e1, h.e2⟩
theorem RefPost.after {F F1 : Nat → Prop} {m : Nat} {st2 : St} {W W1 W2 : World} (hO : Only F W W1) (hN : ∀ k, k < W.heap.size → F1 k → F k) (h : RefPost F1 m st2 W1 W2) : RefPost F m st2 W W2 := by
  obtain ⟨F2, k1, k2, k3⟩ := h
  exact ⟨F2, k1, hO.trans k2 (fun j hj hf => hN j hj hf), fun j hj hf => hN j hj (k3 j (Nat.lt_of_lt_of_le hj hO.size) hf)⟩
end Go.Proofs.YtdphflbgecnhkaaDoor
