/- Two numbers of two words compared by '==' and '!=': as the numbers they are. No condition. -/
import Derived.Test.YtpopbdladlahjaaWf
import Derived.Test.YtpopbdladlahjaaHas
namespace Go.Proofs.Ytpopbdladlahjaa
open Go.RowKit Go.Sort Wm

theorem numEq (a b : Nat) : ((((hiN a : Nat) : Int) == ((hiN b : Nat) : Int)) && (((loN a : Nat) : Int) == ((loN b : Nat) : Int))) = decide (a = b) := by
  by_cases h : a = b
  · subst h; simp
  · rw [decide_eq_false h, Bool.and_eq_false_iff]
    by_cases h1 : hiN a = hiN b
    · right
      rw [beq_eq_false_iff_ne]
      intro e
      exact h (num_inj h1 (by omega))
    · left
      rw [beq_eq_false_iff_ne]
      omega
theorem run_equal_num (a b : Nat) (w : World) : (Op.equalIn 10000 33 (numV a) (numV b)).run Try.prog w = .ok (decide (a = b)) w := by
  rw [← numEq]
  simp [go_sem]
  split
  · rename_i h1
    split
    · rename_i h2; simp [h1, h2]
    · rename_i h2; simp [h1, h2]
  · rename_i h1; simp [h1]
theorem run_eql_num (a b : Nat) (w : World) : (binOp .eql 33 (numV a) (numV b)).run Try.prog w = .ok (.bool (decide (a = b))) w := by
  rw [numV, numV, run_eql_struct, run_equal_num]; rfl
theorem run_neq_num (a b : Nat) (w : World) : (binOp .neq 33 (numV a) (numV b)).run Try.prog w = .ok (.bool (!decide (a = b))) w := by
  rw [numV, numV, run_neq_struct, run_equal_num]; rfl
theorem run_eql_num0 (a : Nat) (w : World) : (binOp .eql 33 (numV a) (.agg #[.int .u64 0, .int .u64 0])).run Try.prog w = .ok (.bool (decide (a = 0))) w := run_eql_num a 0 w
end Go.Proofs.Ytpopbdladlahjaa
