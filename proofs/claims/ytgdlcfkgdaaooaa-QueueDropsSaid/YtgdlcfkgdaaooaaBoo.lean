/- A row of bools, made. No condition but its size. -/
import Derived.Test.YtgdlcfkgdaaooaaAsr
import Derived.Test.YtgdlcfkgdaaooaaRows
import Derived.KernelRfl
import Derived.Laws.MakeOwn
namespace Go.Proofs.Ytgdlcfkgdaaooaa
open Go Go.RowKit

theorem make_bools (W : World) (n : Nat) (hn : n ≤ 100000) : ∃ w', (Instr.makeSlice 50 (.int .i64 (n : Int)) (.int .i64 (n : Int))).run Try.prog W = .ok (.slice (some ⟨W.heap.size, 0, none⟩) n n) w' ∧
    w'.ownsRow 0 4 1 (.slice (some ⟨W.heap.size, 0, none⟩) n n) n ((List.replicate n false).map Value.bool) ∧ Below W.heap.size W w' := by
  have hu : Try.prog.underlying 50 = some (.slice 4) := by kernel_rfl
  have h : (Try.prog.info? 4).map (fun i => (i.zero, i.size, i.bytes)) = some (some (.bool false), 1, 1) := by kernel_rfl
  cases hq : Try.prog.info? 4 with
  | none => simp [hq] at h
  | some ie =>
    rw [hq] at h
    simp only [Option.map_some, Option.some.injEq, Prod.mk.injEq] at h
    obtain ⟨h1, h2, h3⟩ := h
    have hr := run_make (P := Try.prog) W 50 4 ie _ hu hq h1 .i64 .i64 (n : Int) (n : Int) (by omega) (by omega) (by rw [h3]; omega) (by omega)
    simp only [Int.toNat_natCast] at hr
    refine ⟨_, hr, ⟨by simp, .inr ⟨W.heap.size, n, _, rfl, Nat.zero_le _, heap_alloc_new W _, Nat.le_refl _, by unfold maxLen; omega, ?_, ?_⟩⟩, (Below.refl _ _).alloc (Nat.le_refl _) _⟩
    · rw [size_madeCells, h2]
    · rw [h2]
      apply List.ext_getElem?
      intro j
      by_cases hj : j < n
      · rw [List.getElem?_take, if_pos (by omega)]
        simp [madeCells, hj, Value.cells, Nat.mod_one]
      · rw [List.getElem?_eq_none (by simp; omega), List.getElem?_eq_none (by simp; omega)]
end Go.Proofs.Ytgdlcfkgdaaooaa
