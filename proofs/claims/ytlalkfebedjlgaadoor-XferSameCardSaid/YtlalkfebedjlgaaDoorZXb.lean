/- Stage 10: transfers in blocks, compared; the document's kinds; the question that each law asks first. No condition but the landed package's. -/
import Derived.Test.YtlalkfebedjlgaaDoorZXa
import Derived.Test.YtlalkfebedjlgaaDoorZAf
import Derived.Deep.MidRow
import Derived.Deep.WholeRow
namespace Go.Proofs.YtlalkfebedjlgaaDoor
open Go.RowKit Go.Sort Wm Cr
attribute [local go_sem high] run_eql_num run_neq_num run_eql_num0 run_neq_num0

theorem BoxAt.tran {w : World} {b : Nat} {a : Tran} {P : Prop} (h : BoxAt w b a.cells) (p : P) : w.cell? ⟨b, 0, none⟩ = some (.int .u64 ((hiN a.Id : Nat) : Int)) ∧ w.cell? ⟨b, 1, none⟩ = some (.int .u64 ((loN a.Id : Nat) : Int)) ∧ w.cell? ⟨b, 2, none⟩ = some (.int .u64 ((hiN a.Debit : Nat) : Int)) ∧ w.cell? ⟨b, 3, none⟩ = some (.int .u64 ((loN a.Debit : Nat) : Int)) ∧ w.cell? ⟨b, 4, none⟩ = some (.int .u64 ((hiN a.Credit : Nat) : Int)) ∧ w.cell? ⟨b, 5, none⟩ = some (.int .u64 ((loN a.Credit : Nat) : Int)) ∧ w.cell? ⟨b, 6, none⟩ = some (.int .u64 ((hiN a.Amount : Nat) : Int)) ∧ w.cell? ⟨b, 7, none⟩ = some (.int .u64 ((loN a.Amount : Nat) : Int)) ∧ w.cell? ⟨b, 8, none⟩ = some (.int .u64 ((hiN a.Pending : Nat) : Int)) ∧ w.cell? ⟨b, 9, none⟩ = some (.int .u64 ((loN a.Pending : Nat) : Int)) ∧ w.cell? ⟨b, 10, none⟩ = some (.int .i64 a.Timeout) ∧ w.cell? ⟨b, 11, none⟩ = some (.int .i64 a.Ledger) ∧ w.cell? ⟨b, 12, none⟩ = some (.int .i64 a.Code) ∧ w.cell? ⟨b, 13, none⟩ = some (.int .i64 a.Flags) ∧ w.cell? ⟨b, 14, none⟩ = some (.int .i64 a.Stamp) ∧ w.cell? ⟨b, 15, none⟩ = some (.int .i64 a.Born) ∧ b < w.heap.size ∧ P :=
  ⟨h.spot 0 _ rfl, h.spot 1 _ rfl, h.spot 2 _ rfl, h.spot 3 _ rfl, h.spot 4 _ rfl, h.spot 5 _ rfl, h.spot 6 _ rfl, h.spot 7 _ rfl, h.spot 8 _ rfl, h.spot 9 _ rfl, h.spot 10 _ rfl, h.spot 11 _ rfl, h.spot 12 _ rfl, h.spot 13 _ rfl, h.spot 14 _ rfl, h.spot 15 _ rfl, h.lt, p⟩
theorem tranV_eq (a : Tran) : tranV a = .agg #[.int .u64 ((hiN a.Id : Nat) : Int), .int .u64 ((loN a.Id : Nat) : Int), .int .u64 ((hiN a.Debit : Nat) : Int), .int .u64 ((loN a.Debit : Nat) : Int), .int .u64 ((hiN a.Credit : Nat) : Int), .int .u64 ((loN a.Credit : Nat) : Int),
    .int .u64 ((hiN a.Amount : Nat) : Int), .int .u64 ((loN a.Amount : Nat) : Int), .int .u64 ((hiN a.Pending : Nat) : Int), .int .u64 ((loN a.Pending : Nat) : Int), .int .i64 a.Timeout, .int .i64 a.Ledger, .int .i64 a.Code, .int .i64 a.Flags, .int .i64 a.Stamp, .int .i64 a.Born] := rfl
/-- A whole struct loaded, under a guard that holds or none. -/
theorem wpList_load_midg {P : Program} {ops : Array Oper} {rest : List Oper} {op : Oper} {a : Act} {w : World} {Q : Exit → Act → World → Prop} (hw : Region.wanted op (yielded ops a.tmps) = true) (ty : TypeId) (x : Operand) (ho : op.op = .load ty x)
    (b o : Nat) (hx : a.eval x = .pointer (some ⟨b, o, none⟩)) (cs : List Value) (d : TypeDesc) (hc : w.rangeAt b o cs)
    (hu : P.underlying ty = some d) (hd : d.isRow = true) (hi : (P.info? ty).map (·.size) = some cs.length)
    (h : wpList P ops Q rest (a.put op.dst (.agg cs.toArray)) w) : wpList P ops Q (op :: rest) a w :=
  wpList_step fun K hK => by simp only [hw, if_true]; exact wp_load_mid ty x ho b o hx cs d hc hu hd hi (hK _ _ h)
theorem Tran.same {a b : Tran} (h0 : a.Id = b.Id) (h1 : a.Debit = b.Debit) (h2 : a.Credit = b.Credit) (h3 : a.Amount = b.Amount) (h4 : a.Pending = b.Pending) (h5 : a.Timeout = b.Timeout) (h6 : a.Ledger = b.Ledger) (h7 : a.Code = b.Code) (h8 : a.Flags = b.Flags) (h9 : a.Stamp = b.Stamp) (h10 : a.Born = b.Born) : a = b := by
  cases a; cases b
  dsimp only at *
  subst h0 h1 h2 h3 h4 h5 h6 h7 h8 h9 h10
  rfl
open Classical in
set_option maxRecDepth 100000 in
theorem run_equal_tran (a b : Tran) (w : World) : (Op.equalIn 10000 26 (tranV a) (tranV b)).run Tryd.prog w = .ok (decide (a = b)) w := by
  by_cases h : a = b
  · subst h
    rw [decide_eq_true rfl, tranV_eq]
    simp [go_sem]
  · rw [decide_eq_false h, tranV_eq, tranV_eq]
    simp [go_sem]
    intro i0 i1 i2 i3 i4 i5 i6 i7 i8 i9 i10 i11 i12 i13 i14 i15
    exact h (Tran.same (num_inj (Int.natCast_inj.1 i0) (Int.natCast_inj.1 i1)) (num_inj (Int.natCast_inj.1 i2) (Int.natCast_inj.1 i3)) (num_inj (Int.natCast_inj.1 i4) (Int.natCast_inj.1 i5)) (num_inj (Int.natCast_inj.1 i6) (Int.natCast_inj.1 i7)) (num_inj (Int.natCast_inj.1 i8) (Int.natCast_inj.1 i9)) i10 i11 i12 i13 i14 i15)
open Classical in
theorem run_eql_tran (a b : Tran) (w : World) : (binOp .eql 26 (tranV a) (tranV b)).run Tryd.prog w = .ok (.bool (decide (a = b))) w := by
  have := run_equal_tran a b w
  unfold tranV at *
  rw [run_eql_struct, this]; rfl
def oneT : Tran := ⟨1, 0, 0, 0, 0, 0, 0, 0, 4, 0, 0⟩
def twoT : Tran := ⟨1, 2, 3, 4, 0, 0, 1, 1, 0, 0, 0⟩
theorem oneT_wf : oneT.Wf := by
  have h : (0 : Nat) < big := by rw [big_eq]; omega
  have h1 : (1 : Nat) < big := by rw [big_eq]; omega
  refine ⟨h1, h, h, h, h, ?_, ?_, ?_, ?_, ?_, ?_⟩ <;> (unfold oneT; constructor <;> decide)
theorem twoT_wf : twoT.Wf := by
  have h : (0 : Nat) < big := by rw [big_eq]; omega
  have h1 : (1 : Nat) < big := by rw [big_eq]; omega
  have h2 : (2 : Nat) < big := by rw [big_eq]; omega
  have h3 : (3 : Nat) < big := by rw [big_eq]; omega
  have h4 : (4 : Nat) < big := by rw [big_eq]; omega
  refine ⟨h1, h2, h3, h4, h, ?_, ?_, ?_, ?_, ?_, ?_⟩ <;> (unfold twoT; constructor <;> decide)
theorem oneT_chk : chkT oneT = 16 := by decide +kernel
theorem twoT_chk : chkT twoT = 0 := by decide +kernel
set_option maxRecDepth 100000 in
set_option maxHeartbeats 1000000 in
theorem xferAlive_any {Mo : World → Prop} {Wr : (Nat → Prop) → World → Nat → ByteArray → Prop} {Rd : (Nat → Prop) → World → Nat → Option ByteArray → Prop} (L : LandedXf Mo Wr Rd) (w : World) (hM : Mo w) :
    Calls Tryd.prog 9 #[] w fun e w' => e = .returned (.bool true) ∧ Below w.heap.size w w' := by
  have h1 := Lib.hid (fun W (h : Hx Mo w W []) => h.ask L.later (L.check oneT W oneT_wf h.mo))
  have h2 := Lib.hid (fun W (h : Hx Mo w W []) => h.ask L.later (L.check twoT W twoT_wf h.mo))
  rw [oneT_chk] at h1
  rw [twoT_chk] at h2
  have hv1 : tranV oneT = .agg #[.int .u64 0, .int .u64 1, .int .u64 0, .int .u64 0, .int .u64 0, .int .u64 0, .int .u64 0, .int .u64 0, .int .u64 0, .int .u64 0, .int .i64 0, .int .i64 0, .int .i64 0, .int .i64 4, .int .i64 0, .int .i64 0] := by kernel_rfl
  have hv2 : tranV twoT = .agg #[.int .u64 0, .int .u64 1, .int .u64 0, .int .u64 2, .int .u64 0, .int .u64 3, .int .u64 0, .int .u64 4, .int .u64 0, .int .u64 0, .int .i64 0, .int .i64 1, .int .i64 1, .int .i64 0, .int .i64 0, .int .i64 0] := by kernel_rfl
  rw [hv1] at h1
  rw [hv2] at h2
  have hm0 := Hx.refl hM
  clear hv1 hv2 hM L
  go_enter Tryd.func9, Tryd.ntmps9
  go_wp2_with fail
  refine (h1.out _ hm0).mono ?_
  rintro e w1 ⟨rfl, hm1⟩
  go_wp2_with fail
  refine (h2.out _ hm1).mono ?_
  rintro e w2 ⟨rfl, hm2⟩
  go_wp2
  go_ret
  exact ⟨rfl, hm2.bel⟩
set_option maxRecDepth 100000 in
set_option maxHeartbeats 1000000 in
theorem refhas_any (a : Tran) (b : Int) (w : World) (ha : a.Wf) (h0 : 0 ≤ a.Flags) (hb : 1 ≤ b) (hb2 : b ≤ 65536) : Calls Tryd.prog 16 #[tranV a, .int .i64 b] w fun e w' => e = .returned (.bool (bitZ a.Flags b)) ∧ Below w.heap.size w w' := by
  have hx := Lib.hid (show ((a.Flags / b).tmod 2 == 1) = bitZ a.Flags b by
    unfold bitZ
    rw [Int.tmod_eq_emod_of_nonneg (Int.ediv_nonneg h0 (by omega))]
    rfl)
  have hnz : b ≠ 0 := by omega
  have h1 := ha.Flags.2
  rw [tranV_eq]
  generalize bitZ a.Flags b = v at *
  go_enter Tryd.func16, Tryd.ntmps16
  go_wp2
  go_ret
  exact ⟨by rw [← hx.out]; rfl, (Below.refl _ _).alloc (Nat.le_refl _) _⟩
end Go.Proofs.YtlalkfebedjlgaaDoor
