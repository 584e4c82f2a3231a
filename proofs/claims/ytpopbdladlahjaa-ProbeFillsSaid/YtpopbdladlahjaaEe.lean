/- The landed table: made, and all its names laid anew. No condition but sizes. -/
import Derived.Test.YtpopbdladlahjaaEd
import Derived.Test.YtpopbdladlahjaaFork
import Derived.Laws.MakeOwn
namespace Go.Proofs.Ytpopbdladlahjaa
open Go.RowKit Go.Sort Wm

theorem info_cellE : ∃ ie, Try.prog.info? 51 = some ie ∧ ie.zero = some (.agg #[.int .i64 0, .int .u64 0, .int .u64 0, .int .i64 0]) ∧ ie.size = 4 ∧ ie.bytes = 32 := by
  have h : (Try.prog.info? 51).map (fun i => (i.zero, i.size, i.bytes)) = some (some (.agg #[.int .i64 0, .int .u64 0, .int .u64 0, .int .i64 0]), 4, 32) := by kernel_rfl
  cases hq : Try.prog.info? 51 with
  | none => simp [hq] at h
  | some ie =>
    rw [hq] at h
    simp only [Option.map_some, Option.some.injEq, Prod.mk.injEq] at h
    exact ⟨ie, rfl, h.1, h.2.1, h.2.2⟩
/-- So many free cells. -/
def blankE (N : Nat) : Array Value := madeCells #[.int .i64 0, .int .u64 0, .int .u64 0, .int .i64 0] (N * 4)
theorem make_cellsE (N : Nat) (hN : N ≤ 8192) (w : World) : (Instr.makeSlice 46 (.int .i64 (N : Int)) (.int .i64 (N : Int))).run Try.prog w = .ok (.slice (some ⟨w.heap.size, 0, none⟩) N N) (w.alloc (.cells (blankE N) 51)) := by
  obtain ⟨ie, h1, h2, h3, h4⟩ := info_cellE
  have := run_make (P := Try.prog) w 46 51 ie _ (by kernel_rfl) h1 h2 .i64 .i64 (N : Int) (N : Int) (by omega) (by omega) (by rw [h4]; omega) (by omega)
  rw [this, h3]
  rfl
theorem blank_row (w : World) (N i : Nat) (c : Cl) (hc : (List.replicate N (⟨0, 0, 0⟩ : Cl))[i]? = some c) : (w.alloc (.cells (blankE N) 51)).rangeAt w.heap.size (i * 4) (cellsK c) := fun j v hv => by
  have hi : i < N := by
    have := (List.getElem?_eq_some_iff.1 hc).1
    rwa [List.length_replicate] at this
  have hc0 := List.eq_of_mem_replicate (List.mem_of_getElem? hc)
  subst hc0
  have hj : j < 4 := (List.getElem?_eq_some_iff.1 hv).1
  rw [cell_of_row _ _ _ _ _ _ (heap_alloc_last w _)]
  unfold blankE madeCells
  rw [Array.getElem?_map, Array.getElem?_range, if_pos (by omega)]
  simp only [Option.map_some]
  have hm : (i * 4 + j) % (#[Value.int .i64 0, Value.int .u64 0, Value.int .u64 0, Value.int .i64 0] : Array Value).size = j := by
    show (i * 4 + j) % 4 = j
    omega
  rw [hm]
  rw [← hv]
  have hj' : j = 0 ∨ j = 1 ∨ j = 2 ∨ j = 3 := by omega
  rcases hj' with rfl | rfl | rfl | rfl <;> rfl
/-- Cells that were there ahead, which nobody turns. -/
structure OldRow (W : World) (g : Nat) (cs : List Cl) : Prop where
  row : ∀ i c, cs[i]? = some c → W.rangeAt g (i * 4) (cellsK c)
  lg : g < W.heap.size
theorem OldRow.only {W W' : World} {g : Nat} {cs : List Cl} {G : Nat → Prop} (h : OldRow W g cs) (hO : Only G W W') (hg : ¬ G g) : OldRow W' g cs :=
  ⟨fun i c hc j v hv => by rw [hO.cell (p := ⟨g, i * 4 + j, none⟩) h.lg hg]; exact h.row i c hc j v hv, Nat.lt_of_lt_of_le h.lg hO.size⟩
theorem PtV.there3 {W : World} {p g : Nat} {cs : List Cl} {names used : Nat} (h1 : PtV W p g cs names used) : W.there p 0 3 := fun j hj => by
  rw [Nat.zero_add]
  refine ⟨?_, h1.fp j⟩
  have hj' : j = 0 ∨ j = 1 ∨ j = 2 := by omega
  rcases hj' with rfl | rfl | rfl
  · rw [h1.c0]; rfl
  · rw [h1.c1]; rfl
  · rw [h1.c2]; rfl
/-- A table of free cells stored into the one that was there. -/
theorem PtV.blank {W : World} {p g : Nat} {cs : List Cl} {names used : Nat} (h : PtV W p g cs names used) (N : Nat) :
    PtV ((W.alloc (.cells (blankE N) 51)).setCells p 0 [.slice (some ⟨W.heap.size, 0, none⟩) N N, .int .i64 0, .int .i64 0]) p W.heap.size (List.replicate N ⟨0, 0, 0⟩) 0 0 := by
  have hb : Below W.heap.size W (W.alloc (.cells (blankE N) 51)) := (Below.refl _ _).alloc (Nat.le_refl _) _
  have h1 := h.later hb
  have hne : p ≠ W.heap.size := fun e => Nat.lt_irrefl _ (e ▸ h.lp)
  have hth := h1.there3
  have hs := World.rangeAt_setCells_same _ p 0 [.slice (some ⟨W.heap.size, 0, none⟩) N N, .int .i64 0, .int .i64 0] hth
  refine ⟨?_, hs 1 _ rfl, hs 2 _ rfl, fun j => by rw [World.frozen?_setCells]; exact h1.fp j, by rw [size_setCellsE]; exact h1.lp, fun i c hc => ?_, fun j => ?_, ?_, hne⟩
  · rw [List.length_replicate]
    exact hs 0 _ rfl
  · exact World.rangeAt_setCells_apart (blank_row W N i c hc) _ _ _ (.inl (Ne.symm hne))
  · rw [World.frozen?_setCells]
    simp [go_sem]
  · rw [size_setCellsE]
    simp
set_option maxRecDepth 100000 in
theorem tbNew_any (W : World) : Calls Try.prog 7 #[] W fun e W' => ∃ p g, e = .returned (.pointer (some ⟨p, 0, none⟩)) ∧ PtV W' p g (List.replicate 16 ⟨0, 0, 0⟩) 0 0 ∧ W.heap.size ≤ p ∧ W.heap.size ≤ g ∧ Below W.heap.size W W' := by
  have hmk := Lib.hid (make_cellsE 16 (by omega) W)
  have hfin := Lib.hid (show PtV ((W.alloc (.cells (blankE 16) 51)).alloc (.cells #[.slice (some ⟨W.heap.size, 0, none⟩) 16 16, .int .i64 0, .int .i64 0] 48)) (W.heap.size + 1) W.heap.size (List.replicate 16 ⟨0, 0, 0⟩) 0 0 by
    refine ⟨?_, ?_, ?_, fun j => ?_, ?_, fun i c hc => World.rangeAt_alloc (blank_row W 16 i c hc) _, fun j => ?_, ?_, by omega⟩
    · rw [List.length_replicate]; simp [go_sem]
    · simp [go_sem]
    · simp [go_sem]
    · simp [go_sem]
    · simp
    · simp [go_sem]
    · simp; omega)
  have hbl := Lib.hid (show Below W.heap.size W ((W.alloc (.cells (blankE 16) 51)).alloc (.cells #[.slice (some ⟨W.heap.size, 0, none⟩) 16 16, .int .i64 0, .int .i64 0] 48)) from
    ((Below.refl _ _).alloc (Nat.le_refl _) _).alloc (by simp) _)
  generalize blankE 16 = B at *
  go_enter Try.func7, Try.ntmps7
  go_wp2_with (refine wpList_make_run _ rfl _ _ _ rfl _ _ rfl rfl _ _ hmk.out ?_)
  go_ret
  exact ⟨_, _, rfl, hfin.out, by omega, by omega, hbl.out⟩
end Go.Proofs.Ytpopbdladlahjaa
