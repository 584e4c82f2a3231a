/- Stage 10: transfers in blocks, compared; the document's kinds; the question that each law asks first. No condition but the landed package's. -/
/- Bits of an int under a small mask. Plain: no program, no condition. -/
/- The landed accounts' small calls: numbers within bounds, an account's kind, what it has but balances, whether it has bytes, whether it is there again. No condition. -/
/- The landed accounts' Again and Check. No condition but that the variable Most holds the greatest number. -/
/- The landed transfers' small calls: numbers within bounds, one of some flags, a transfer's kinds, how many of three flags, the greatest timeout, whether it has bytes. No condition. -/
import Derived.Test.YtfdanlfiaoedfaaRows
import Derived.Test.YtfdanlfiaoedfaaZXa
import Derived.Test.YtfdanlfiaoedfaaZCalb
import Derived.Test.YtfdanlfiaoedfaaZAf
import Derived.Deep.MidRow
import Derived.Deep.WholeRow
import Derived.WalkKit
import Derived.IntWalk
import Derived.Laws.StructEq
namespace Go.Proofs.Ytfdanlfiaoedfaa
open Go.RowKit Go.Sort Wm Cr
attribute [local go_sem high] run_eql_num run_neq_num run_eql_num0 run_neq_num0

theorem BoxAt.tran {w : World} {b : Nat} {a : Tran} {P : Prop} (h : BoxAt w b a.cells) (p : P) : w.cell? ⟨b, 0, none⟩ = some (.int .u64 ((hiN a.Id : Nat) : Int)) ∧ w.cell? ⟨b, 1, none⟩ = some (.int .u64 ((loN a.Id : Nat) : Int)) ∧ w.cell? ⟨b, 2, none⟩ = some (.int .u64 ((hiN a.Debit : Nat) : Int)) ∧ w.cell? ⟨b, 3, none⟩ = some (.int .u64 ((loN a.Debit : Nat) : Int)) ∧ w.cell? ⟨b, 4, none⟩ = some (.int .u64 ((hiN a.Credit : Nat) : Int)) ∧ w.cell? ⟨b, 5, none⟩ = some (.int .u64 ((loN a.Credit : Nat) : Int)) ∧ w.cell? ⟨b, 6, none⟩ = some (.int .u64 ((hiN a.Amount : Nat) : Int)) ∧ w.cell? ⟨b, 7, none⟩ = some (.int .u64 ((loN a.Amount : Nat) : Int)) ∧ w.cell? ⟨b, 8, none⟩ = some (.int .u64 ((hiN a.Pending : Nat) : Int)) ∧ w.cell? ⟨b, 9, none⟩ = some (.int .u64 ((loN a.Pending : Nat) : Int)) ∧ w.cell? ⟨b, 10, none⟩ = some (.int .i64 a.Timeout) ∧ w.cell? ⟨b, 11, none⟩ = some (.int .i64 a.Ledger) ∧ w.cell? ⟨b, 12, none⟩ = some (.int .i64 a.Code) ∧ w.cell? ⟨b, 13, none⟩ = some (.int .i64 a.Flags) ∧ w.cell? ⟨b, 14, none⟩ = some (.int .i64 a.Stamp) ∧ w.cell? ⟨b, 15, none⟩ = some (.int .i64 a.Born) ∧ b < w.heap.size ∧ P :=
  ⟨h.spot 0 _ rfl, h.spot 1 _ rfl, h.spot 2 _ rfl, h.spot 3 _ rfl, h.spot 4 _ rfl, h.spot 5 _ rfl, h.spot 6 _ rfl, h.spot 7 _ rfl, h.spot 8 _ rfl, h.spot 9 _ rfl, h.spot 10 _ rfl, h.spot 11 _ rfl, h.spot 12 _ rfl, h.spot 13 _ rfl, h.spot 14 _ rfl, h.spot 15 _ rfl, h.lt, p⟩
theorem tranV_eq (a : Tran) : tranV a = .agg #[.int .u64 ((hiN a.Id : Nat) : Int), .int .u64 ((loN a.Id : Nat) : Int), .int .u64 ((hiN a.Debit : Nat) : Int), .int .u64 ((loN a.Debit : Nat) : Int), .int .u64 ((hiN a.Credit : Nat) : Int), .int .u64 ((loN a.Credit : Nat) : Int),
    .int .u64 ((hiN a.Amount : Nat) : Int), .int .u64 ((loN a.Amount : Nat) : Int), .int .u64 ((hiN a.Pending : Nat) : Int), .int .u64 ((loN a.Pending : Nat) : Int), .int .i64 a.Timeout, .int .i64 a.Ledger, .int .i64 a.Code, .int .i64 a.Flags, .int .i64 a.Stamp, .int .i64 a.Born] := rfl
theorem Tran.same {a b : Tran} (h0 : a.Id = b.Id) (h1 : a.Debit = b.Debit) (h2 : a.Credit = b.Credit) (h3 : a.Amount = b.Amount) (h4 : a.Pending = b.Pending) (h5 : a.Timeout = b.Timeout) (h6 : a.Ledger = b.Ledger) (h7 : a.Code = b.Code) (h8 : a.Flags = b.Flags) (h9 : a.Stamp = b.Stamp) (h10 : a.Born = b.Born) : a = b := by
  cases a; cases b
  dsimp only at *
  subst h0 h1 h2 h3 h4 h5 h6 h7 h8 h9 h10
  rfl
open Classical in
set_option maxRecDepth 100000 in
theorem run_equal_tran (a b : Tran) (w : World) : (Op.equalIn 10000 61 (tranV a) (tranV b)).run Try.prog w = .ok (decide (a = b)) w := by
  by_cases h : a = b
  · subst h
    rw [decide_eq_true rfl, tranV_eq]
    simp [go_sem]
  · rw [decide_eq_false h, tranV_eq, tranV_eq]
    simp [go_sem]
    intro i0 i1 i2 i3 i4 i5 i6 i7 i8 i9 i10 i11 i12 i13 i14 i15
    exact h (Tran.same (num_inj (Int.natCast_inj.1 i0) (Int.natCast_inj.1 i1)) (num_inj (Int.natCast_inj.1 i2) (Int.natCast_inj.1 i3)) (num_inj (Int.natCast_inj.1 i4) (Int.natCast_inj.1 i5)) (num_inj (Int.natCast_inj.1 i6) (Int.natCast_inj.1 i7)) (num_inj (Int.natCast_inj.1 i8) (Int.natCast_inj.1 i9)) i10 i11 i12 i13 i14 i15)
end Go.Proofs.Ytfdanlfiaoedfaa
namespace Go.Proofs.Ytfdanlfiaoedfaa
open Go Go.RowKit

/-- Is a number within two others? -/
def inZ (a n b : Int) : Bool := decide (a ≤ n) && decide (n ≤ b)
end Go.Proofs.Ytfdanlfiaoedfaa
namespace Go.Proofs.Ytfdanlfiaoedfaa
open Go.RowKit Go.Sort Wm Cr

set_option maxRecDepth 100000 in
theorem acWithin_any (a n b : Int) (W : World) : Calls Try.prog 60 #[.int .i64 a, .int .i64 n, .int .i64 b] W fun e W' => e = .returned (.bool (inZ a n b)) ∧ W = W' := by
  by_cases h : a ≤ n
  · have hb := Lib.hid (show decide (n ≤ b) = inZ a n b by unfold inZ; rw [decide_eq_true h]; rfl)
    go_enter Try.func60, Try.ntmps60
    go_wp2
    go_ret
    exact ⟨by rw [← hb.out]; rfl, rfl⟩
  · have hb := Lib.hid (show inZ a n b = false by unfold inZ; rw [decide_eq_false h]; rfl)
    go_enter Try.func60, Try.ntmps60
    go_wp2
    go_ret
    exact ⟨by rw [hb.out]; rfl, rfl⟩
theorem goodA_in (a : Acct) : goodA a = (inZ 0 a.Ledger 4294967295 && (inZ 0 a.Code 65535 && inZ 0 a.Flags 65535)) := by
  unfold goodA inZ
  simp only [← Bool.decide_and]
  refine decide_eq_decide.2 ?_
  omega
set_option maxRecDepth 100000 in
set_option maxHeartbeats 1000000 in
theorem acGood_any (a : Acct) (W : World) : Calls Try.prog 30 #[acctV a] W fun e W' => e = .returned (.bool (goodA a)) ∧ Below W.heap.size W W' := by
  have c1 := Lib.hid (fun W => acWithin_any 0 a.Ledger 4294967295 W)
  have c2 := Lib.hid (fun W => acWithin_any 0 a.Code 65535 W)
  have c3 := Lib.hid (fun W => acWithin_any 0 a.Flags 65535 W)
  have hg := Lib.hid (goodA_in a)
  have hbl : Below W.heap.size W (W.alloc (.cells a.cells.toArray 58)) := (Below.refl _ _).alloc (Nat.le_refl _) _
  dsimp only [Acct.cells] at hbl
  replace hbl := Lib.hid hbl
  rw [hg.out, acctV_eq]
  generalize inZ 0 a.Ledger 4294967295 = b1 at *
  generalize inZ 0 a.Code 65535 = b2 at *
  generalize inZ 0 a.Flags 65535 = b3 at *
  clear hg
  cases b1 <;> cases b2
  all_goals
    go_enter Try.func30, Try.ntmps30
    go_wp2_with (first
      | (go_at_call 60; with_reducible refine (c1.out _).mono ?_; rintro e W1 ⟨rfl, rfl⟩)
      | (go_at_call 60; with_reducible refine (c2.out _).mono ?_; rintro e W1 ⟨rfl, rfl⟩)
      | (go_at_call 60; with_reducible refine (c3.out _).mono ?_; rintro e W1 ⟨rfl, rfl⟩))
    all_goals
      go_ret
      exact ⟨by first | rfl | simp, hbl.out⟩
end Go.Proofs.Ytfdanlfiaoedfaa
namespace Go.Proofs.Ytfdanlfiaoedfaa
open Go.RowKit Go.Sort Wm Cr
attribute [local go_sem high] run_eql_num run_neq_num run_eql_num0 run_neq_num0

theorem Acct.same {a b : Acct} (h0 : a.Id = b.Id) (h1 : a.DebitsPending = b.DebitsPending) (h2 : a.DebitsPosted = b.DebitsPosted) (h3 : a.CreditsPending = b.CreditsPending) (h4 : a.CreditsPosted = b.CreditsPosted) (h5 : a.Ledger = b.Ledger) (h6 : a.Code = b.Code) (h7 : a.Flags = b.Flags) (h8 : a.Stamp = b.Stamp) : a = b := by
  cases a; cases b
  dsimp only at *
  subst h0 h1 h2 h3 h4 h5 h6 h7 h8
  rfl
open Classical in
set_option maxRecDepth 100000 in
theorem run_equal_accts (a b : Acct) (w : World) : (Op.equalIn 10000 58 (acctV a) (acctV b)).run Try.prog w = .ok (decide (a = b)) w := by
  by_cases h : a = b
  · subst h
    rw [decide_eq_true rfl, acctV_eq]
    simp [go_sem]
  · rw [decide_eq_false h, acctV_eq, acctV_eq]
    simp [go_sem]
    intro i0 i1 i2 i3 i4 i5 i6 i7 i8 i9 i10 i11 i12 i13
    exact h (Acct.same (num_inj (Int.natCast_inj.1 i0) (Int.natCast_inj.1 i1)) (num_inj (Int.natCast_inj.1 i2) (Int.natCast_inj.1 i3)) (num_inj (Int.natCast_inj.1 i4) (Int.natCast_inj.1 i5)) (num_inj (Int.natCast_inj.1 i6) (Int.natCast_inj.1 i7)) (num_inj (Int.natCast_inj.1 i8) (Int.natCast_inj.1 i9)) i10 i11 i12 i13)
open Classical in
theorem run_neq_accts (a b : Acct) (w : World) : (binOp .neq 58 (.agg a.cells.toArray) (.agg b.cells.toArray)).run Try.prog w = .ok (.bool (!decide (a = b))) w := by
  have := run_equal_accts a b w
  unfold acctV at this
  rw [run_neq_struct, this]; rfl
end Go.Proofs.Ytfdanlfiaoedfaa
namespace Go.Proofs.Ytfdanlfiaoedfaa
open Go.RowKit Go.Sort Wm Cr

theorem noLater : ∀ W W' : World, (fun _ : World => True) W → Below W.heap.size W W' → (fun _ : World => True) W' := fun _ _ _ _ => trivial
set_option maxRecDepth 100000 in
theorem xfWithin_any (a n b : Int) (W : World) : Calls Try.prog 61 #[.int .i64 a, .int .i64 n, .int .i64 b] W fun e W' => e = .returned (.bool (inZ a n b)) ∧ W = W' := by
  by_cases h : a ≤ n
  · have hb := Lib.hid (show decide (n ≤ b) = inZ a n b by unfold inZ; rw [decide_eq_true h]; rfl)
    go_enter Try.func61, Try.ntmps61
    go_wp2
    go_ret
    exact ⟨by rw [← hb.out]; rfl, rfl⟩
  · have hb := Lib.hid (show inZ a n b = false by unfold inZ; rw [decide_eq_false h]; rfl)
    go_enter Try.func61, Try.ntmps61
    go_wp2
    go_ret
    exact ⟨by rw [hb.out]; rfl, rfl⟩
/-! Flags. -/
/-- A transfer in the call's first block. -/
theorem tranBox (a : Tran) (W : World) : Hx (fun _ => True) W (W.alloc (.cells a.cells.toArray 61)) [(W.heap.size, a.cells)] :=
  (Hx.refl (Mo := fun _ => True) (w := W) trivial).new noLater a.cells 61
theorem Hx.row {Mo : World → Prop} {w W : World} {b : Nat} {M : List Value} {l : List (Nat × List Value)} (h : Hx Mo w W l) (hm : (b, M) ∈ l) : W.rangeAt b 0 M := (h.box (b, M) hm).range
theorem goodT_in (a : Tran) : goodT a = (inZ 0 a.Timeout 4294967295 && (inZ 0 a.Ledger 4294967295 && (inZ 0 a.Code 65535 && inZ 0 a.Flags 65535))) := by
  unfold goodT inZ
  simp only [← Bool.decide_and]
  refine decide_eq_decide.2 ?_
  omega
set_option maxRecDepth 100000 in
set_option maxHeartbeats 1000000 in
theorem xfGood_any (a : Tran) (W : World) : Calls Try.prog 32 #[tranV a] W fun e W' => e = .returned (.bool (goodT a)) ∧ Below W.heap.size W W' := by
  have c0 := Lib.hid (fun W => xfWithin_any 0 a.Timeout 4294967295 W)
  have c1 := Lib.hid (fun W => xfWithin_any 0 a.Ledger 4294967295 W)
  have c2 := Lib.hid (fun W => xfWithin_any 0 a.Code 65535 W)
  have c3 := Lib.hid (fun W => xfWithin_any 0 a.Flags 65535 W)
  have hg := Lib.hid (goodT_in a)
  have hbl := (tranBox a W).bel
  dsimp only [Tran.cells] at hbl
  replace hbl := Lib.hid hbl
  rw [hg.out, tranV_eq]
  generalize inZ 0 a.Timeout 4294967295 = b0 at *
  generalize inZ 0 a.Ledger 4294967295 = b1 at *
  generalize inZ 0 a.Code 65535 = b2 at *
  generalize inZ 0 a.Flags 65535 = b3 at *
  clear hg
  cases b0 <;> cases b1 <;> cases b2
  all_goals
    go_enter Try.func32, Try.ntmps32
    go_wp2_with (first
      | (go_at_call 61; with_reducible refine (c0.out _).mono ?_; rintro e W1 ⟨rfl, rfl⟩)
      | (go_at_call 61; with_reducible refine (c1.out _).mono ?_; rintro e W1 ⟨rfl, rfl⟩)
      | (go_at_call 61; with_reducible refine (c2.out _).mono ?_; rintro e W1 ⟨rfl, rfl⟩)
      | (go_at_call 61; with_reducible refine (c3.out _).mono ?_; rintro e W1 ⟨rfl, rfl⟩))
    all_goals
      go_ret
      exact ⟨by first | rfl | simp, hbl.out⟩
/-! How many of three flags. -/
end Go.Proofs.Ytfdanlfiaoedfaa
