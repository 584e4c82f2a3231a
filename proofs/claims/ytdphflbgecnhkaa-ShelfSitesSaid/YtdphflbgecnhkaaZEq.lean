/- A list of cells that are known in a world, carried along. No program. -/
/- Two numbers of two words compared by '==' and '!=': as the numbers they are. No condition. -/
import Derived.Test.YtdphflbgecnhkaaZWf
import Derived.WalkKit
namespace Go.Proofs.Ytdphflbgecnhkaa
open Go.RowKit

/-- Known cells: block, offset, value. -/
def Has (w : World) : List (Nat × Nat × Value) → Prop
  | [] => True
  | f :: r => (w.cell? ⟨f.1, f.2.1, none⟩ = some f.2.2 ∧ f.1 < w.heap.size) ∧ Has w r
theorem Has.later {w w2 : World} (hb : Below w.heap.size w w2) : ∀ {fs : List (Nat × Nat × Value)}, Has w fs → Has w2 fs
  | [], _ => trivial
  | _ :: _, h => ⟨⟨by rw [hb.cell (by exact h.1.2)]; exact h.1.1, Nat.lt_of_lt_of_le h.1.2 hb.size⟩, Has.later hb h.2⟩
theorem Has.alloc {w : World} {fs : List (Nat × Nat × Value)} (h : Has w fs) (o : Obj) : Has (w.alloc o) fs := h.later ((Below.refl _ _).alloc (Nat.le_refl _) o)
theorem Has.new2 {w : World} {fs : List (Nat × Nat × Value)} (h : Has w fs) (x y : Value) (t : TypeId) : Has (w.alloc (.cells #[x, y] t)) ((w.heap.size, 0, x) :: (w.heap.size, 1, y) :: fs) :=
  ⟨⟨by simp [go_sem], by simp⟩, ⟨by simp [go_sem], by simp⟩, h.alloc _⟩
end Go.Proofs.Ytdphflbgecnhkaa
namespace Go.Proofs.Ytdphflbgecnhkaa
open Go.RowKit Go.Sort Wm

theorem numEq (a b : Nat) : ((((hiN a : Nat) : Int) == ((hiN b : Nat) : Int)) && (((loN a : Nat) : Int) == ((loN b : Nat) : Int))) = decide (a = b) := by
  by_cases h : a = b
  · subst h; simp
  · rw [decide_eq_false h, Bool.and_eq_false_iff]
    by_cases h1 : hiN a = hiN b
    · right
      rw [beq_eq_false_iff_ne]
      intro e
      exact h (num_inj h1 (by omega))
    · left
      rw [beq_eq_false_iff_ne]
      omega
theorem run_equal_num (a b : Nat) (w : World) : (Op.equalIn 10000 33 (numV a) (numV b)).run Try.prog w = .ok (decide (a = b)) w := by
  rw [← numEq]
  simp [go_sem]
  split
  · rename_i h1
    split
    · rename_i h2; simp [h1, h2]
    · rename_i h2; simp [h1, h2]
  · rename_i h1; simp [h1]
theorem run_eql_num (a b : Nat) (w : World) : (binOp .eql 33 (numV a) (numV b)).run Try.prog w = .ok (.bool (decide (a = b))) w := by
  rw [numV, numV, run_eql_struct, run_equal_num]; rfl
theorem run_neq_num (a b : Nat) (w : World) : (binOp .neq 33 (numV a) (numV b)).run Try.prog w = .ok (.bool (!decide (a = b))) w := by
  rw [numV, numV, run_neq_struct, run_equal_num]; rfl
end Go.Proofs.Ytdphflbgecnhkaa
