/- Rows of texts: 'append(v, l..)' and 'append(v, s)', v a row of one's own; what a slice of such a row is. Over the seat's own types. No condition but sizes. -/
import Derived.Test.YtmhafgginbeihaaZJf
import Derived.Maps.AppendAt
namespace Go.Proofs.Ytmhafgginbeihaa
open Go.RowKit Go.Sort Cr

theorem rowS_one (l : List ByteArray) : ∀ u ∈ rowS l, u.oneCell' = true := by
  intro u hu
  unfold rowS at hu
  obtain ⟨x, _, rfl⟩ := List.mem_map.mp hu
  rfl
theorem rowS_get (l : List ByteArray) (k : Nat) (h : k < l.length) : (rowS l)[k]? = some (.string l[k]) := by
  unfold rowS; rw [List.getElem?_map, List.getElem?_eq_getElem h]; rfl
theorem strs_of_row {W : World} {base n cap : Nat} {ao : Option Addr} {l : List ByteArray} (h : W.ownsRow base 9 1 (.slice ao n cap) n (rowS l)) (hn : l.length = n) : StrsAt W ao l := by
  refine ⟨fun k hk => ?_⟩
  have h' := h
  rcases h'.2 with ⟨e, h0⟩ | ⟨g, c, cur, e, _⟩
  · omega
  · injection e with e1 e2 e3
    subst e1
    refine ⟨g, 0, rfl, (h.lt g rfl).2, ?_⟩
    have := h.cells (g := g) rfl k _ (rowS_get l k hk)
    unfold Addr.add at this
    split at this
    · rename_i h0; subst h0; exact this
    · rw [Nat.zero_add]; simpa using this
/-- 'append(v, l..)', v a row of one's own. -/
theorem app_strs (W : World) (base : Nat) (hbase : base ≤ W.heap.size) (v : Value) (n : Nat) (xs : List Value) (hown : W.ownsRow base 9 1 v n xs)
    (ao : Option Addr) (cap : Nat) (l : List ByteArray) (hS : StrsAt W ao l) (hn : n + l.length ≤ 100000) :
    ∃ ao' cap' w', (Builtin.append_ #[28, 28] 28 #[v, .slice ao l.length cap]).run Try.prog W = .ok (.slice ao' (n + l.length) cap') w' ∧
      w'.ownsRow base 9 1 (.slice ao' (n + l.length) cap') (n + l.length) (xs ++ rowS l) ∧ W.grownBy w' v.ownBlock := by
  obtain ⟨i0, hi0, hz0, hz1, hz2⟩ := info_parts str_info
  by_cases h0 : l.length = 0
  · obtain rfl : l = [] := List.eq_nil_of_length_eq_zero h0
    obtain ⟨hx, hf⟩ := hown
    rcases hf with ⟨rfl, rfl⟩ | ⟨g, c, cur, rfl, h1, h2, hle, h3⟩
    · refine ⟨none, 0, W, ?_, ?_, ⟨rfl, rfl, rfl, Nat.le_refl _, fun _ _ _ => rfl⟩⟩
      · cases ao <;> simp [Builtin.append_, run_underlying Try.underlying28, sizeOf, typeInfo, hi0, Builtin.lenOf, Builtin.firstCells, loadCells, loadCellsFrom]
      · have e : xs ++ rowS [] = xs := List.append_nil xs
        rw [e]; exact ⟨hx, .inl ⟨rfl, rfl⟩⟩
    · refine ⟨some ⟨g, 0, none⟩, c, W, ?_, ?_, ⟨rfl, rfl, rfl, Nat.le_refl _, fun _ _ _ => rfl⟩⟩
      · cases ao <;> simp [Builtin.append_, run_underlying Try.underlying28, sizeOf, typeInfo, hi0, Builtin.lenOf, Builtin.firstCells, loadCells, loadCellsFrom, hle, storeCells]
      · have e : xs ++ rowS [] = xs := List.append_nil xs
        rw [e]; exact ⟨hx, .inr ⟨g, c, cur, rfl, h1, h2, hle, h3⟩⟩
  · obtain ⟨b, off, rfl, _, _⟩ := hS.spot 0 (by omega)
    obtain ⟨v', w', h1, h2, h3, _⟩ := run_append_own (P := Try.prog) W base 28 28 9 i0 _ 1 16 Try.underlying28 hi0 hz0 hz1 hz2 rfl (by omega) v n xs hown ⟨b, off, none⟩ l.length cap (rowS l) (by rw [rowS_length]; omega)
      (fun j u hj => by
        have hjl : j < l.length := by have := (List.getElem?_eq_some_iff.1 hj).1; rw [rowS_length] at this; exact this
        obtain ⟨b', off', e, _, hc⟩ := hS.spot j hjl
        simp only [Option.some.injEq, Addr.mk.injEq, and_true] at e
        obtain ⟨rfl, rfl⟩ := e
        rw [rowS_get l j hjl] at hj
        obtain rfl := Option.some.inj hj
        unfold Addr.add
        split
        · rename_i h0; subst h0; exact hc
        · exact hc)
      (rowS_one l) (by unfold maxLen; omega) (by omega) hbase
    rcases h2.2 with ⟨e, e0⟩ | ⟨g, c, cur, e, _⟩
    · omega
    · subst e
      exact ⟨_, _, w', h1, h2, h3⟩
/-- 'append([]string{}, l..)': a new row. -/
theorem app_new (W : World) (ao : Option Addr) (cap : Nat) (l : List ByteArray) (hS : StrsAt W ao l) (hn : l.length ≤ 1000) :
    ∃ ao' cap' w', (Builtin.append_ #[28, 28] 28 #[.slice (some ⟨W.heap.size, 0, none⟩) 0 0, .slice ao l.length cap]).run Try.prog (W.alloc (.cells #[] 9)) = .ok (.slice ao' l.length cap') w' ∧
      w'.ownsRow W.heap.size 9 1 (.slice ao' l.length cap') l.length (rowS l) ∧ Below W.heap.size W w' := by
  have hbl : Below W.heap.size W (W.alloc (.cells #[] 9)) := (Below.refl _ _).alloc (Nat.le_refl _) _
  have hown : (W.alloc (.cells #[] 9)).ownsRow W.heap.size 9 1 (.slice (some ⟨W.heap.size, 0, none⟩) 0 0) 0 [] :=
    ⟨rfl, .inr ⟨W.heap.size, 0, #[], rfl, Nat.le_refl _, by first | (show (W.heap.push _)[W.heap.size]? = _; simp) | simp | simp [go_sem], Nat.le_refl _, by unfold maxLen; omega, rfl, rfl⟩⟩
  obtain ⟨ao', cap', w', h1, h2, h3⟩ := app_strs (W.alloc (.cells #[] 9)) W.heap.size (by simp) _ 0 [] hown ao cap l (hS.later hbl) (by omega)
  rw [Nat.zero_add, List.nil_append] at h2
  rw [Nat.zero_add] at h1
  refine ⟨ao', cap', w', h1, h2, hbl.trans ?_⟩
  exact (Only.of_grown (F := fun k => W.heap.size ≤ k) h3 (fun k _ hk => by
    have : W.heap.size = k := by simpa [Value.ownBlock] using hk
    omega)).to_below (by simp) (fun k hk => hk)
/-- 'append(v, s)', v a row of one's own. -/
theorem app_last (W : World) (base : Nat) (hbase : base ≤ W.heap.size) (ao : Option Addr) (n cap : Nat) (l : List ByteArray) (hl : l.length = n) (hown : W.ownsRow base 9 1 (.slice ao n cap) n (rowS l)) (s : ByteArray) (hn : n ≤ 1000) :
    ∃ ao' cap' w', (Builtin.append_ #[28, 28] 28 #[.slice ao n cap, .slice (some ⟨W.heap.size, 0, none⟩) 1 1]).run Try.prog (W.alloc (.cells #[.string s] 9)) = .ok (.slice ao' (n + 1) cap') w' ∧
      w'.ownsRow base 9 1 (.slice ao' (n + 1) cap') (n + 1) (rowS (l ++ [s])) ∧ Below base W w' := by
  have hbl : Below W.heap.size W (W.alloc (.cells #[.string s] 9)) := (Below.refl _ _).alloc (Nat.le_refl _) _
  have hS : StrsAt (W.alloc (.cells #[.string s] 9)) (some ⟨W.heap.size, 0, none⟩) [s] := ⟨fun k hk => by
    obtain rfl : k = 0 := by simpa using hk
    exact ⟨W.heap.size, 0, rfl, by simp, by simp [go_sem]⟩⟩
  obtain ⟨ao', cap', w', h1, h2, h3⟩ := app_strs (W.alloc (.cells #[.string s] 9)) base (by simp; omega) _ n _ (hown.alloc _) (some ⟨W.heap.size, 0, none⟩) 1 [s] hS (by simp; omega)
  refine ⟨ao', cap', w', h1, ?_, (hbl.mono hbase).trans ?_⟩
  · have e : rowS (l ++ [s]) = rowS l ++ rowS [s] := by unfold rowS; rw [List.map_append]
    rw [e]; exact h2
  · exact (Only.of_grown (F := fun k => base ≤ k) h3 (fun k _ hk => (hown.lt k hk).1)).to_below (by simp; omega) (fun k hk => hk)
end Go.Proofs.Ytmhafgginbeihaa
