/- A row of one's own as a slice; append whose run is known, and a plain step, in a region that draws. Plain, over whatever program. No condition. -/
/- The document's disk: a write. No condition but sizes. -/
import Derived.Test.YtlalkfebedjlgaaDoorZPr
import Derived.Below
import Derived.Laws.AppendOwn
import Derived.Deep.RegionLaw
import Derived.WalkKit
import Derived.OwnWalk
import Derived.Lib.AppendZeros
import Derived.RegionTactic
namespace Go.Proofs.YtlalkfebedjlgaaDoor
open Go.RowKit

theorem row_slice {W : World} {base : Nat} {e : TypeId} {v : Value} {n : Nat} {xs : List Value} (h : W.ownsRow base e 1 v n xs) :
    ∃ ao cap, v = .slice ao n cap ∧ ∀ j, j < n → ∃ g x, ao = some ⟨g, 0, none⟩ ∧ g < W.heap.size ∧ xs[j]? = some x ∧ W.cell? ⟨g, j, none⟩ = some x ∧ W.frozen? ⟨g, j, none⟩ = false := by
  have hl := h.1
  rw [Nat.mul_one] at hl
  rcases h.2 with ⟨rfl, rfl⟩ | ⟨g, cap, cur, rfl, hb, hh, _⟩
  · exact ⟨none, 0, rfl, fun j hj => by omega⟩
  · refine ⟨_, cap, rfl, fun j hj => ⟨g, xs[j], rfl, (h.lt g rfl).2, List.getElem?_eq_getElem (by omega), ?_, h.frozenAt j⟩⟩
    have := h.cells (g := g) rfl j xs[j] (List.getElem?_eq_getElem (by omega))
    unfold Addr.add at this
    split at this
    · rename_i h0; subst h0; exact this
    · rw [Nat.zero_add] at this; exact this
end Go.Proofs.YtlalkfebedjlgaaDoor
namespace Go.Proofs.YtlalkfebedjlgaaDoor
open Go.RowKit

/-- What is known once one more has been written. -/
theorem RefV.more {W : World} {m : Nat} {safe : List ByteArray} {ats : List Nat} {datas : List ByteArray} {ops arm : Int} {vs va vd : Value} (h : RefV W m safe ats datas ops arm vs va vd) (i : Nat) (hn : ats.length ≤ 1000) :
    ∃ g cap w', (Builtin.append_ #[65, 65] 65 #[va, .slice (some ⟨W.heap.size, 0, none⟩) 1 1]).run Tryd.prog (W.alloc (.cells #[.int .i64 ((i : Nat) : Int)] 3)) = .ok (.slice (some ⟨g, 0, none⟩) (ats.length + 1) cap) w' ∧
      w'.cell? ⟨m, 1, none⟩ = some va ∧ w'.frozen? ⟨m, 1, none⟩ = false ∧ m < w'.heap.size ∧
      RefV (w'.setCell ⟨m, 1, none⟩ (.slice (some ⟨g, 0, none⟩) (ats.length + 1) cap)) m safe (ats ++ [i]) datas ops arm vs (.slice (some ⟨g, 0, none⟩) (ats.length + 1) cap) vd ∧
      Only (foot m vs va vd) W (w'.setCell ⟨m, 1, none⟩ (.slice (some ⟨g, 0, none⟩) (ats.length + 1) cap)) ∧
      ∀ k, k < W.heap.size → foot m vs (.slice (some ⟨g, 0, none⟩) (ats.length + 1) cap) vd k → foot m vs va vd k := by
  obtain ⟨g, cap, w', hrun, ho, hgr, hat⟩ := app_one Tryd.underlying65 int_info rfl (by omega) W va ats.length _ h.o1 (.int .i64 ((i : Nat) : Int)) rfl (by omega)
  have hO : Only (fun j => va.ownBlock = some j) W w' := (Only.of_below ((Below.refl _ _).alloc (Nat.le_refl _) _)).trans (Only.of_grown (F := fun j => va.ownBlock = some j) hgr (fun j _ hj => hj)) (fun _ _ e => e)
  have hat2 : ∀ j, (Value.slice (some ⟨g, 0, none⟩) (ats.length + 1) cap).ownBlock = some j → va.ownBlock = some j ∨ W.heap.size ≤ j := fun j hj => by
    have hj2 : g = j := by simpa [Value.ownBlock] using hj
    subst hj2
    rcases hat with e | e
    · left; exact e
    · right; omega
  refine ⟨g, cap, w', hrun, by rw [hO.cell (p := ⟨m, 1, none⟩) h.lt h.d1]; exact h.c1, by rw [hO.frozen (p := ⟨m, 1, none⟩) h.lt h.d1]; exact h.fz 1, Nat.lt_of_lt_of_le h.lt hO.size,
    ?_, (hO.mono (fun j _ hj => .inr (.inr (.inl hj)))).setCell (fun _ => .inl rfl) _, fun k hk hf => ?_⟩
  · have := h.row1 (l := ats ++ [i]) (v' := .slice (some ⟨g, 0, none⟩) (ats.length + 1) cap) hO (by
      rw [List.length_append]
      have e : rowI (ats ++ [i]) = rowI ats ++ [.int .i64 ((i : Nat) : Int)] := by unfold rowI; rw [List.map_append]; rfl
      rw [e]; exact ho) hat2
    exact this
  · rcases hf with e | e | e | e
    · exact .inl e
    · exact .inr (.inl e)
    · rcases hat2 k e with e2 | e2
      · exact .inr (.inr (.inl e2))
      · omega
    · exact .inr (.inr (.inr e))
end Go.Proofs.YtlalkfebedjlgaaDoor
