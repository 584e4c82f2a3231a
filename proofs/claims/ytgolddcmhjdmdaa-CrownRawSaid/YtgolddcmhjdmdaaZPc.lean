/- The document's disk in memory: its cells, and its rows. No condition. -/
/- A row of one's own as a slice; append whose run is known, and a plain step, in a region that draws. Plain, over whatever program. No condition. -/
/- The document's disk: a crash, and a sync. No condition but sizes. -/
import Derived.Test.YtgolddcmhjdmdaaRows
import Derived.Test.YtgolddcmhjdmdaaZTp
import Derived.Test.YtgolddcmhjdmdaaZGr
import Derived.WalkKit
import Derived.WalkSpells
import Derived.WalkLawsBesides
import Derived.LoopTactic
import Derived.Lib.Hide
import Derived.OneCell
import Derived.OwnWalk
import Derived.Maps.AppendAt
import Derived.Lib.AppendZeros
import Derived.Lib.MinMax
import Derived.Below
import Derived.Laws.AppendOwn
import Derived.Deep.RegionLaw
import Derived.BigRegion
import Derived.Laws.BitsAllLaws
import Derived.RegionTactic
namespace Go.Proofs.Ytgolddcmhjdmdaa
open Go.RowKit

def rowS (l : List ByteArray) : List Value := l.map Value.string
def rowI (l : List Nat) : List Value := l.map fun i => Value.int .i64 ((i : Nat) : Int)
/-- The document's disk: five cells, and three rows. -/
structure RefV (W : World) (m : Nat) (safe : List ByteArray) (ats : List Nat) (datas : List ByteArray) (ops arm : Int) (vs va vd : Value) : Prop where
  c0 : W.cell? ⟨m, 0, none⟩ = some vs
  c1 : W.cell? ⟨m, 1, none⟩ = some va
  c2 : W.cell? ⟨m, 2, none⟩ = some vd
  c3 : W.cell? ⟨m, 3, none⟩ = some (.int .i64 ops)
  c4 : W.cell? ⟨m, 4, none⟩ = some (.int .i64 arm)
  fz : ∀ j, W.frozen? ⟨m, j, none⟩ = false
  lt : m < W.heap.size
  o0 : W.ownsRow 0 9 1 vs safe.length (rowS safe)
  o1 : W.ownsRow 0 3 1 va ats.length (rowI ats)
  o2 : W.ownsRow 0 9 1 vd datas.length (rowS datas)
  d0 : vs.ownBlock ≠ some m
  d1 : va.ownBlock ≠ some m
  d2 : vd.ownBlock ≠ some m
  e0 : ∀ k, vs.ownBlock = some k → va.ownBlock ≠ some k
  e1 : ∀ k, vs.ownBlock = some k → vd.ownBlock ≠ some k
  e2 : ∀ k, va.ownBlock = some k → vd.ownBlock ≠ some k
def foot (m : Nat) (vs va vd : Value) : Nat → Prop := fun k => k = m ∨ vs.ownBlock = some k ∨ va.ownBlock = some k ∨ vd.ownBlock = some k
def RefIs (F : Nat → Prop) (W : World) (m : Nat) (st : St) : Prop := ∃ vs va vd, RefV W m st.safe (st.later.map (·.1)) (st.later.map (·.2)) st.ops st.arm vs va vd ∧ ∀ k, F k ↔ foot m vs va vd k
section
variable {W W' : World} {m : Nat} {safe : List ByteArray} {ats : List Nat} {datas : List ByteArray} {ops arm : Int} {vs va vd : Value}
theorem RefV.near (h : RefV W m safe ats datas ops arm vs va vd) : ∀ k, foot m vs va vd k → k < W.heap.size := by
  intro k hk
  rcases hk with rfl | hk | hk | hk
  · exact h.lt
  · exact (h.o0.lt k hk).2
  · exact (h.o1.lt k hk).2
  · exact (h.o2.lt k hk).2
theorem RefV.keep (h : RefV W m safe ats datas ops arm vs va vd) {G : Nat → Prop} (hO : Only G W W') (hG : ∀ k, foot m vs va vd k → ¬ G k) : RefV W' m safe ats datas ops arm vs va vd := by
  have hm : ¬ G m := hG m (.inl rfl)
  have hc : ∀ j, W'.cell? ⟨m, j, none⟩ = W.cell? ⟨m, j, none⟩ := fun j => hO.cell (p := ⟨m, j, none⟩) h.lt hm
  exact ⟨by rw [hc]; exact h.c0, by rw [hc]; exact h.c1, by rw [hc]; exact h.c2, by rw [hc]; exact h.c3, by rw [hc]; exact h.c4,
    fun j => by rw [hO.frozen (p := ⟨m, j, none⟩) h.lt hm]; exact h.fz j, Nat.lt_of_lt_of_le h.lt hO.size,
    hO.row h.o0 (fun g hg => hG g (.inr (.inl hg))), hO.row h.o1 (fun g hg => hG g (.inr (.inr (.inl hg)))), hO.row h.o2 (fun g hg => hG g (.inr (.inr (.inr hg)))),
    h.d0, h.d1, h.d2, h.e0, h.e1, h.e2⟩
theorem RefV.later (h : RefV W m safe ats datas ops arm vs va vd) (hb : Below W.heap.size W W') : RefV W' m safe ats datas ops arm vs va vd :=
  h.keep (G := fun _ => False) (Only.of_below hb) (fun _ _ e => e)
/-- A store into one of its own cells. -/
theorem cell_put {W : World} {m j i : Nat} {x u : Value} (h : W.cell? ⟨m, j, none⟩ = some u) : (W.setCell ⟨m, j, none⟩ x).cell? ⟨m, i, none⟩ = if i = j then some x else W.cell? ⟨m, i, none⟩ := by
  by_cases e : i = j
  · subst e; rw [if_pos rfl]; exact World.cell?_setCell_same _ _ _ h
  · rw [if_neg e, World.cell?_setCell_other]
    intro e2; injection e2 with _ e3 _; omega
theorem RefV.put3 (h : RefV W m safe ats datas ops arm vs va vd) (o : Int) : RefV (W.setCell ⟨m, 3, none⟩ (.int .i64 o)) m safe ats datas o arm vs va vd :=
  ⟨by rw [cell_put h.c3]; exact h.c0, by rw [cell_put h.c3]; exact h.c1, by rw [cell_put h.c3]; exact h.c2, by rw [cell_put h.c3]; rfl, by rw [cell_put h.c3]; exact h.c4,
    fun j => by simpa using h.fz j, by simpa using h.lt, ownsRow_setCell_other h.o0 h.d0 _, ownsRow_setCell_other h.o1 h.d1 _, ownsRow_setCell_other h.o2 h.d2 _, h.d0, h.d1, h.d2, h.e0, h.e1, h.e2⟩
theorem RefV.put4 (h : RefV W m safe ats datas ops arm vs va vd) (o : Int) : RefV (W.setCell ⟨m, 4, none⟩ (.int .i64 o)) m safe ats datas ops o vs va vd :=
  ⟨by rw [cell_put h.c4]; exact h.c0, by rw [cell_put h.c4]; exact h.c1, by rw [cell_put h.c4]; exact h.c2, by rw [cell_put h.c4]; exact h.c3, by rw [cell_put h.c4]; rfl,
    fun j => by simpa using h.fz j, by simpa using h.lt, ownsRow_setCell_other h.o0 h.d0 _, ownsRow_setCell_other h.o1 h.d1 _, ownsRow_setCell_other h.o2 h.d2 _, h.d0, h.d1, h.d2, h.e0, h.e1, h.e2⟩
theorem RefV.row2 (h : RefV W m safe ats datas ops arm vs va vd) {v' : Value} {l : List ByteArray} (hO : Only (fun k => vd.ownBlock = some k) W W')
    (ho : W'.ownsRow 0 9 1 v' l.length (rowS l)) (hd : ∀ k, v'.ownBlock = some k → vd.ownBlock = some k ∨ W.heap.size ≤ k) : RefV (W'.setCell ⟨m, 2, none⟩ v') m safe ats l ops arm vs va v' := by
  have hc : ∀ j, W'.cell? ⟨m, j, none⟩ = W.cell? ⟨m, j, none⟩ := fun j => hO.cell (p := ⟨m, j, none⟩) h.lt h.d2
  have h2 : W'.cell? ⟨m, 2, none⟩ = some vd := by rw [hc]; exact h.c2
  have hne : ∀ k, k < W.heap.size → vd.ownBlock ≠ some k → v'.ownBlock ≠ some k := fun k hk hv e => by
    rcases hd k e with e2 | e2
    · exact hv e2
    · omega
  have dm := hne m h.lt h.d2
  exact ⟨by rw [cell_put h2, hc]; exact h.c0, by rw [cell_put h2, hc]; exact h.c1, by rw [cell_put h2]; rfl, by rw [cell_put h2, hc]; exact h.c3, by rw [cell_put h2, hc]; exact h.c4,
    fun j => by have := hO.frozen (p := ⟨m, j, none⟩) h.lt h.d2; simpa [this] using h.fz j, by have := hO.size; have := h.lt; simp; omega,
    ownsRow_setCell_other (hO.row h.o0 (fun g hg e => h.e1 g hg e)) h.d0 _, ownsRow_setCell_other (hO.row h.o1 (fun g hg e => h.e2 g hg e)) h.d1 _, ownsRow_setCell_other ho dm _,
    h.d0, h.d1, dm, h.e0, fun k hk e => hne k (h.o0.lt k hk).2 (fun e2 => h.e1 k hk e2) e, fun k hk e => hne k (h.o1.lt k hk).2 (fun e2 => h.e2 k hk e2) e⟩
end
theorem RefIs.near {F : Nat → Prop} {W : World} {m : Nat} {st : St} (h : RefIs F W m st) : ∀ k, F k → k < W.heap.size := by
  obtain ⟨vs, va, vd, hV, hF⟩ := h
  exact fun k hk => hV.near k ((hF k).1 hk)
theorem RefIs.keep {F G : Nat → Prop} {W W' : World} {m : Nat} {st : St} (h : RefIs F W m st) (hO : Only G W W') (hG : ∀ k, F k → ¬ G k) : RefIs F W' m st := by
  obtain ⟨vs, va, vd, hV, hF⟩ := h
  exact ⟨vs, va, vd, hV.keep hO (fun k hk => hG k ((hF k).2 hk)), hF⟩
theorem RefIs.later {F : Nat → Prop} {W W' : World} {m : Nat} {st : St} (h : RefIs F W m st) (hb : Below W.heap.size W W') : RefIs F W' m st :=
  h.keep (G := fun _ => False) (Only.of_below hb) (fun _ _ e => e)
/-- What a call of it leaves. -/
def RefPost (F : Nat → Prop) (m : Nat) (st : St) (W W' : World) : Prop := ∃ F', RefIs F' W' m st ∧ Only F W W' ∧ ∀ k, k < W.heap.size → F' k → F k

end Go.Proofs.Ytgolddcmhjdmdaa
namespace Go.Proofs.Ytgolddcmhjdmdaa
open Go.RowKit

theorem row_slice {W : World} {base : Nat} {e : TypeId} {v : Value} {n : Nat} {xs : List Value} (h : W.ownsRow base e 1 v n xs) :
    ∃ ao cap, v = .slice ao n cap ∧ ∀ j, j < n → ∃ g x, ao = some ⟨g, 0, none⟩ ∧ g < W.heap.size ∧ xs[j]? = some x ∧ W.cell? ⟨g, j, none⟩ = some x ∧ W.frozen? ⟨g, j, none⟩ = false := by
  have hl := h.1
  rw [Nat.mul_one] at hl
  rcases h.2 with ⟨rfl, rfl⟩ | ⟨g, cap, cur, rfl, hb, hh, _⟩
  · exact ⟨none, 0, rfl, fun j hj => by omega⟩
  · refine ⟨_, cap, rfl, fun j hj => ⟨g, xs[j], rfl, (h.lt g rfl).2, List.getElem?_eq_getElem (by omega), ?_, h.frozenAt j⟩⟩
    have := h.cells (g := g) rfl j xs[j] (List.getElem?_eq_getElem (by omega))
    unfold Addr.add at this
    split at this
    · rename_i h0; subst h0; exact this
    · rw [Nat.zero_add] at this; exact this
end Go.Proofs.Ytgolddcmhjdmdaa
namespace Go.Proofs.Ytgolddcmhjdmdaa
open Go.RowKit

theorem RefV.store {W : World} {m : Nat} {safe : List ByteArray} {ats : List Nat} {datas : List ByteArray} {ops arm : Int} {g n cap : Nat} {va vd : Value} (h : RefV W m safe ats datas ops arm (.slice (some ⟨g, 0, none⟩) n cap) va vd) (hn : n = safe.length) (j : Nat) (x : ByteArray) :
    RefV (W.setCell ⟨g, j, none⟩ (.string x)) m (safe.set j x) ats datas ops arm (.slice (some ⟨g, 0, none⟩) n cap) va vd := by
  subst hn
  have hgm : g ≠ m := fun e => h.d0 (by rw [e]; rfl)
  have hc : ∀ i, (W.setCell ⟨g, j, none⟩ (.string x)).cell? ⟨m, i, none⟩ = W.cell? ⟨m, i, none⟩ := fun i => by
    rw [World.cell?_setCell_other]
    intro e; injection e with e1 _ _; exact hgm e1
  have e : rowS (safe.set j x) = (rowS safe).set j (.string x) := by unfold rowS; rw [List.map_set]
  exact ⟨by rw [hc]; exact h.c0, by rw [hc]; exact h.c1, by rw [hc]; exact h.c2, by rw [hc]; exact h.c3, by rw [hc]; exact h.c4,
    fun i => by simpa using h.fz i, by simpa using h.lt, by rw [List.length_set, e]; exact (h.o0.stored j _).1,
    ownsRow_setCell_other h.o1 (h.e0 g rfl) _, ownsRow_setCell_other h.o2 (h.e1 g rfl) _, h.d0, h.d1, h.d2, h.e0, h.e1, h.e2⟩
theorem RefPost.after {F F1 : Nat → Prop} {m : Nat} {st2 : St} {W W1 W2 : World} (hO : Only F W W1) (hN : ∀ k, k < W.heap.size → F1 k → F k) (h : RefPost F1 m st2 W1 W2) : RefPost F m st2 W W2 := by
  obtain ⟨F2, k1, k2, k3⟩ := h
  exact ⟨F2, k1, hO.trans k2 (fun j hj hf => hN j hj hf), fun j hj hf => hN j hj (k3 j (Nat.lt_of_lt_of_le hj hO.size) hf)⟩
end Go.Proofs.Ytgolddcmhjdmdaa
