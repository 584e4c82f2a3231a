/- The landed accounts' small calls: numbers within bounds, an account's kind, what it has but balances, whether it has bytes, whether it is there again. No condition. -/
import Derived.Test.YtideooaefplbhaaDoorZPl
import Derived.Test.YtideooaefplbhaaDoorZAb
import Derived.Test.YtideooaefplbhaaDoorZBi
import Derived.Laws.StructEq
namespace Go.Proofs.YtideooaefplbhaaDoor
open Go.RowKit Go.Sort Wm Cr

def inZ (a n b : Int) : Bool := decide (a ≤ n) && decide (n ≤ b)
set_option maxRecDepth 100000 in
theorem acWithin_any (a n b : Int) (W : World) : Calls Tryd.prog 24 #[.int .i64 a, .int .i64 n, .int .i64 b] W fun e W' => e = .returned (.bool (inZ a n b)) ∧ W = W' := by
  by_cases h : a ≤ n
  · have hb := Lib.hid (show decide (n ≤ b) = inZ a n b by unfold inZ; rw [decide_eq_true h]; rfl)
    go_enter Tryd.func24, Tryd.ntmps24
    go_wp2
    go_ret
    exact ⟨by rw [← hb.out]; rfl, rfl⟩
  · have hb := Lib.hid (show inZ a n b = false by unfold inZ; rw [decide_eq_false h]; rfl)
    go_enter Tryd.func24, Tryd.ntmps24
    go_wp2
    go_ret
    exact ⟨by rw [hb.out]; rfl, rfl⟩
/-- An account with nothing but what may be asked for. -/
def bareA (a : Acct) : Acct := ⟨a.Id, 0, 0, 0, 0, a.Ledger, a.Code, a.Flags, 0⟩
set_option maxRecDepth 100000 in
set_option maxHeartbeats 1000000 in
theorem acBare_any (a : Acct) (W : World) : Calls Tryd.prog 23 #[acctV a] W fun e W' => e = .returned (acctV (bareA a)) ∧ Below W.heap.size W W' := by
  have hV := Lib.hid (show acctV (bareA a) = .agg #[.int .u64 ((hiN a.Id : Nat) : Int), .int .u64 ((loN a.Id : Nat) : Int), .int .u64 0, .int .u64 0, .int .u64 0, .int .u64 0, .int .u64 0, .int .u64 0, .int .u64 0, .int .u64 0, .int .i64 a.Ledger, .int .i64 a.Code, .int .i64 a.Flags, .int .i64 0] by kernel_rfl)
  rw [acctV_eq]
  go_enter Tryd.func23, Tryd.ntmps23
  go_wp2
  refine bodyPost_ret (v := acctV (bareA a)) ?_ rfl ⟨rfl, ?_⟩
  · rw [hV.out]
    simp [results, Tryd.results23, go_sem]
  · exact ((Below.refl _ _).alloc (Nat.le_refl _) _).alloc (by simp) _
set_option maxRecDepth 100000 in
set_option maxHeartbeats 1000000 in
theorem acKind_any (a : Acct) (x : Int) (hx : bits .and .i64 a.Flags 6 = x) (W : World) : Calls Tryd.prog 27 #[acctV a] W fun e W' => e = .returned (.agg #[.int .i64 a.Ledger, .int .i64 a.Code, .int .i64 x]) ∧ Below W.heap.size W W' := by
  rw [acctV_eq]
  go_enter Tryd.func27, Tryd.ntmps27
  go_wp2
  refine bodyPost_ret (v := .agg #[.int .i64 a.Ledger, .int .i64 a.Code, .int .i64 x]) ?_ rfl ⟨rfl, ?_⟩
  · simp [results, Tryd.results27, go_sem]
  · exact ((Below.refl _ _).alloc (Nat.le_refl _) _).alloc (by simp) _
theorem goodA_in (a : Acct) : goodA a = (inZ 0 a.Ledger 4294967295 && (inZ 0 a.Code 65535 && inZ 0 a.Flags 65535)) := by
  unfold goodA inZ
  simp only [← Bool.decide_and]
  refine decide_eq_decide.2 ?_
  omega
set_option maxRecDepth 100000 in
set_option maxHeartbeats 1000000 in
theorem acGood_any (a : Acct) (W : World) : Calls Tryd.prog 18 #[acctV a] W fun e W' => e = .returned (.bool (goodA a)) ∧ Below W.heap.size W W' := by
  have c1 := Lib.hid (fun W => acWithin_any 0 a.Ledger 4294967295 W)
  have c2 := Lib.hid (fun W => acWithin_any 0 a.Code 65535 W)
  have c3 := Lib.hid (fun W => acWithin_any 0 a.Flags 65535 W)
  have hg := Lib.hid (goodA_in a)
  have hbl : Below W.heap.size W (W.alloc (.cells a.cells.toArray 26)) := (Below.refl _ _).alloc (Nat.le_refl _) _
  dsimp only [Acct.cells] at hbl
  replace hbl := Lib.hid hbl
  rw [hg.out, acctV_eq]
  generalize inZ 0 a.Ledger 4294967295 = b1 at *
  generalize inZ 0 a.Code 65535 = b2 at *
  generalize inZ 0 a.Flags 65535 = b3 at *
  clear hg
  cases b1 <;> cases b2
  all_goals
    go_enter Tryd.func18, Tryd.ntmps18
    go_wp2_with (first
      | (go_at_call 24; with_reducible refine (c1.out _).mono ?_; rintro e W1 ⟨rfl, rfl⟩)
      | (go_at_call 24; with_reducible refine (c2.out _).mono ?_; rintro e W1 ⟨rfl, rfl⟩)
      | (go_at_call 24; with_reducible refine (c3.out _).mono ?_; rintro e W1 ⟨rfl, rfl⟩))
    all_goals
      go_ret
      exact ⟨by first | rfl | simp, hbl.out⟩
end Go.Proofs.YtideooaefplbhaaDoor
