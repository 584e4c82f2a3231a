/- One bit of a number turned, or put. Plain: no program, no condition. -/
/- Stage 10: the document's Again; the walks of XferAgain and XferSame. No condition but the landed package's. -/
import Derived.Test.YtlalkfebedjlgaaDoorRows
import Derived.Test.YtlalkfebedjlgaaDoorZXb
import Derived.WalkKit
import Derived.IntWalk
namespace Go.Proofs.YtlalkfebedjlgaaDoor
open Go Go.RowKit

/-- The number with its lowest bit turned. -/
def flipW (w : Int) : Int := if w % 2 = 0 then w + 1 else w - 1
theorem xor_one_nat (n : Nat) : n ^^^ 1 = if n % 2 = 0 then n + 1 else n - 1 := by
  have h1 : (n ^^^ 1) / 2 = n / 2 := by
    apply Nat.eq_of_testBit_eq
    intro i
    rw [Nat.testBit_div_two, Nat.testBit_div_two, Nat.testBit_xor]
    have : Nat.testBit 1 (i + 1) = false := by
      rw [Nat.testBit_succ]; simp
    rw [this]; simp
  have h2 : (n ^^^ 1) % 2 = (n + 1) % 2 := by
    have h : Nat.testBit (n ^^^ 1) 0 = (Nat.testBit n 0 != Nat.testBit 1 0) := Nat.testBit_xor ..
    rw [Nat.testBit_zero, Nat.testBit_zero, Nat.testBit_zero] at h
    by_cases e : n % 2 = 1
    · rw [decide_eq_true e] at h
      have : ¬ (n ^^^ 1) % 2 = 1 := by simpa using h
      omega
    · rw [decide_eq_false e] at h
      have : (n ^^^ 1) % 2 = 1 := by simpa using h
      omega
  split <;> omega
theorem bits_flip {w : Int} (h0 : -9223372036854775808 ≤ w) (h1 : w ≤ 9223372036854775807) : bits .xor .i64 w 1 = flipW w := by
  show IntKind.i64.wrap ((BitVec.ofInt 64 w ^^^ BitVec.ofInt 64 1).toNat : Int) = _
  have e1 : (BitVec.ofInt 64 (1 : Int)).toNat = 1 := by decide
  have e2 : ((BitVec.ofInt 64 w).toNat : Int) = w % 18446744073709551616 := by
    rw [BitVec.toNat_ofInt]
    omega
  rw [BitVec.toNat_xor, e1, xor_one_nat, IntKind.wrap_i64]
  unfold flipW
  generalize (BitVec.ofInt 64 w).toNat = m at *
  by_cases h : m % 2 = 0
  · rw [if_pos h, if_pos (by omega)]; omega
  · rw [if_neg h, if_neg (by omega)]; omega
theorem flip_same (f : Int) : flipW f / 2 = f / 2 ∧ (0 ≤ f → 0 ≤ flipW f) ∧ (f ≤ 9223372036854775807 → flipW f ≤ 9223372036854775807) := by
  unfold flipW
  split <;> omega
theorem bits_or {f : Int} {k : Nat} (h0 : 0 ≤ f) (h1 : f ≤ 9223372036854775807) (hk : k < 9223372036854775808) : bits .or .i64 f (k : Int) = (((f.toNat ||| k : Nat)) : Int) := by
  show IntKind.i64.wrap ((BitVec.ofInt 64 f ||| BitVec.ofInt 64 (k : Int)).toNat : Int) = _
  have e1 : (BitVec.ofInt 64 (k : Int)).toNat = k := by
    rw [BitVec.toNat_ofInt]
    omega
  have e2 : (BitVec.ofInt 64 f).toNat = f.toNat := by
    rw [BitVec.toNat_ofInt]
    omega
  rw [BitVec.toNat_or, e1, e2]
  have h : f.toNat ||| k < 2 ^ 63 := Nat.or_lt_two_pow (by omega) (by omega)
  rw [IntKind.wrap_i64]
  omega
theorem or1_part (n : Nat) : (n ||| 1) / 2 = n / 2 := by
  apply Nat.eq_of_testBit_eq
  intro j
  rw [Nat.testBit_div_two, Nat.testBit_div_two, Nat.testBit_or, show Nat.testBit 1 (j + 1) = false by rw [Nat.testBit_succ]; simp]
  simp
end Go.Proofs.YtlalkfebedjlgaaDoor
namespace Go.Proofs.YtlalkfebedjlgaaDoor
open Go.RowKit Go.Sort Wm Cr

section
variable {Mo : World → Prop} {Wr : (Nat → Prop) → World → Nat → ByteArray → Prop} {Rd : (Nat → Prop) → World → Nat → Option ByteArray → Prop}
theorem againT_pos {a b : Tran} (h : plainT a = plainT b) : againT a b = 10 := by unfold againT; rw [if_pos h]
theorem againT_neg {a b : Tran} (h : ¬ plainT a = plainT b) : againT a b = 11 := by unfold againT; rw [if_neg h]
theorem againT_symm (a b : Tran) : againT a b = againT b a := by
  unfold againT
  by_cases h : plainT a = plainT b
  · rw [if_pos h, if_pos h.symm]
  · rw [if_neg h, if_neg (fun e => h e.symm)]
theorem againT_plain {a a' b b' : Tran} (h : plainT a = plainT a') (h2 : plainT b = plainT b') : againT a b = againT a' b' := by
  unfold againT
  rw [h, h2]
theorem tran_two' {W : World} {b c : Nat} {x y : Tran} {P : Prop} (h1 : BoxAt W b x.cells) (h2 : BoxAt W c y.cells) (p : P) : W.cell? ⟨b, 0, none⟩ = some (.int .u64 ((hiN x.Id : Nat) : Int)) ∧ W.cell? ⟨b, 1, none⟩ = some (.int .u64 ((loN x.Id : Nat) : Int)) ∧ W.cell? ⟨b, 2, none⟩ = some (.int .u64 ((hiN x.Debit : Nat) : Int)) ∧ W.cell? ⟨b, 3, none⟩ = some (.int .u64 ((loN x.Debit : Nat) : Int)) ∧ W.cell? ⟨b, 4, none⟩ = some (.int .u64 ((hiN x.Credit : Nat) : Int)) ∧ W.cell? ⟨b, 5, none⟩ = some (.int .u64 ((loN x.Credit : Nat) : Int)) ∧ W.cell? ⟨b, 6, none⟩ = some (.int .u64 ((hiN x.Amount : Nat) : Int)) ∧ W.cell? ⟨b, 7, none⟩ = some (.int .u64 ((loN x.Amount : Nat) : Int)) ∧ W.cell? ⟨b, 8, none⟩ = some (.int .u64 ((hiN x.Pending : Nat) : Int)) ∧ W.cell? ⟨b, 9, none⟩ = some (.int .u64 ((loN x.Pending : Nat) : Int)) ∧ W.cell? ⟨b, 10, none⟩ = some (.int .i64 x.Timeout) ∧ W.cell? ⟨b, 11, none⟩ = some (.int .i64 x.Ledger) ∧ W.cell? ⟨b, 12, none⟩ = some (.int .i64 x.Code) ∧ W.cell? ⟨b, 13, none⟩ = some (.int .i64 x.Flags) ∧ W.cell? ⟨b, 14, none⟩ = some (.int .i64 x.Stamp) ∧ W.cell? ⟨b, 15, none⟩ = some (.int .i64 x.Born) ∧ b < W.heap.size ∧ W.cell? ⟨c, 0, none⟩ = some (.int .u64 ((hiN y.Id : Nat) : Int)) ∧ W.cell? ⟨c, 1, none⟩ = some (.int .u64 ((loN y.Id : Nat) : Int)) ∧ W.cell? ⟨c, 2, none⟩ = some (.int .u64 ((hiN y.Debit : Nat) : Int)) ∧ W.cell? ⟨c, 3, none⟩ = some (.int .u64 ((loN y.Debit : Nat) : Int)) ∧ W.cell? ⟨c, 4, none⟩ = some (.int .u64 ((hiN y.Credit : Nat) : Int)) ∧ W.cell? ⟨c, 5, none⟩ = some (.int .u64 ((loN y.Credit : Nat) : Int)) ∧ W.cell? ⟨c, 6, none⟩ = some (.int .u64 ((hiN y.Amount : Nat) : Int)) ∧ W.cell? ⟨c, 7, none⟩ = some (.int .u64 ((loN y.Amount : Nat) : Int)) ∧ W.cell? ⟨c, 8, none⟩ = some (.int .u64 ((hiN y.Pending : Nat) : Int)) ∧ W.cell? ⟨c, 9, none⟩ = some (.int .u64 ((loN y.Pending : Nat) : Int)) ∧ W.cell? ⟨c, 10, none⟩ = some (.int .i64 y.Timeout) ∧ W.cell? ⟨c, 11, none⟩ = some (.int .i64 y.Ledger) ∧ W.cell? ⟨c, 12, none⟩ = some (.int .i64 y.Code) ∧ W.cell? ⟨c, 13, none⟩ = some (.int .i64 y.Flags) ∧ W.cell? ⟨c, 14, none⟩ = some (.int .i64 y.Stamp) ∧ W.cell? ⟨c, 15, none⟩ = some (.int .i64 y.Born) ∧ c < W.heap.size ∧ P := by
  simpa only [and_assoc] using h1.tran (h2.tran p)
theorem plainT_or (a : Tran) (fl : Int) (h : fl / 2 = a.Flags / 2) : plainT { a with Flags := fl } = plainT a := by
  unfold plainT
  dsimp only
  rw [h]
set_option maxRecDepth 100000 in
set_option maxHeartbeats 2000000 in
theorem refagainT_any (a b : Tran) (h : a.Wf) (h2 : b.Wf) (ha : 0 ≤ a.Flags) (hb : 0 ≤ b.Flags) (w : World) : Calls Tryd.prog 18 #[tranV a, tranV b] w fun e w' => e = .returned (.int .i64 (againT a b)) ∧ Below w.heap.size w w' := by
  have e1 : wrap64 (a.Flags.tdiv 2) = a.Flags / 2 := by rw [Int.tdiv_eq_ediv_of_nonneg ha]; have := h.Flags; unfold wrap64; omega
  have hr := fun W => run_eql_tran (plainT a) (plainT b) W
  rw [tranV_eq, tranV_eq] at hr
  rw [tranV_eq, tranV_eq]
  unfold plainT at hr
  dsimp only at hr
  have f1 := h.Flags
  have f2 := h2.Flags
  go_enter Tryd.func18, Tryd.ntmps18
  go_wp2
  all_goals
    go_ret
    refine ⟨congrArg (fun v : Int => Ending.returned (.int .i64 v)) ?_, ((Below.refl _ _).alloc (Nat.le_refl _) _).alloc (by simp) _⟩
    first | exact (againT_pos (by unfold plainT; rw [Tran.mk.injEq]; assumption)).symm | exact (againT_neg (by unfold plainT; rw [Tran.mk.injEq]; simpa only [Classical.not_and_iff_not_or_not] using ‹_›)).symm
set_option maxRecDepth 100000 in
set_option maxHeartbeats 2000000 in
theorem xferAgain_low (L : LandedXf Mo Wr Rd) (a b : Tran) (w : World) (hM : Mo w) (h1 : a.Flags < 0) :
    Calls Tryd.prog 5 #[tranV a, tranV b] w fun e w' => e = .returned (.bool true) ∧ Below w.heap.size w w' := by
  have hm0 := ((Hx.refl hM).new L.later a.cells 26).new L.later b.cells 26
  rw [World.size_alloc] at hm0
  have hal := Lib.hid (fun W (h : Hx Mo w W [(w.heap.size + 1, b.cells), (w.heap.size, a.cells)]) => h.ask L.later (xferAlive_any L W h.mo))
  rw [tranV_eq, tranV_eq]
  go_enter Tryd.func5, Tryd.ntmps5
  go_wp2_with fail
  refine (hal.out _ hm0).mono ?_
  rintro e w1 ⟨rfl, hm1⟩
  have z13 := (hm1.box (w.heap.size, a.cells) (by simp)).spot 13 _ rfl
  have zl := (hm1.box (w.heap.size, a.cells) (by simp)).lt
  have y13 := (hm1.box (w.heap.size + 1, b.cells) (by simp)).spot 13 _ rfl
  have yl := (hm1.box (w.heap.size + 1, b.cells) (by simp)).lt
  go_wp2
  go_ret
  exact ⟨rfl, hm1.bel⟩
set_option maxRecDepth 100000 in
set_option maxHeartbeats 2000000 in
theorem xferAgain_low2 (L : LandedXf Mo Wr Rd) (a b : Tran) (w : World) (hM : Mo w) (h1 : ¬ a.Flags < 0) (h2 : b.Flags < 0) :
    Calls Tryd.prog 5 #[tranV a, tranV b] w fun e w' => e = .returned (.bool true) ∧ Below w.heap.size w w' := by
  have hm0 := ((Hx.refl hM).new L.later a.cells 26).new L.later b.cells 26
  rw [World.size_alloc] at hm0
  have hal := Lib.hid (fun W (h : Hx Mo w W [(w.heap.size + 1, b.cells), (w.heap.size, a.cells)]) => h.ask L.later (xferAlive_any L W h.mo))
  rw [tranV_eq, tranV_eq]
  go_enter Tryd.func5, Tryd.ntmps5
  go_wp2_with fail
  refine (hal.out _ hm0).mono ?_
  rintro e w1 ⟨rfl, hm1⟩
  have z13 := (hm1.box (w.heap.size, a.cells) (by simp)).spot 13 _ rfl
  have zl := (hm1.box (w.heap.size, a.cells) (by simp)).lt
  have y13 := (hm1.box (w.heap.size + 1, b.cells) (by simp)).spot 13 _ rfl
  have yl := (hm1.box (w.heap.size + 1, b.cells) (by simp)).lt
  go_wp2
  go_ret
  exact ⟨rfl, hm1.bel⟩
end
end Go.Proofs.YtlalkfebedjlgaaDoor
