/- Tran: an argument of the type api.Transfer, and of slices of it: what its cells hold. No condition. -/
import Derived.Test.YtfdanlfiaoedfaaRows
import Derived.Test.YtfdanlfiaoedfaaZAv
import Derived.Deep.Slices
import Derived.ChangeArms
import Derived.ChangeSame
import Derived.OpenShut
import Derived.SizedLaws
import Derived.Below
import Derived.WalkKit
import Derived.KernelRfl
namespace Go.Proofs.Ytfdanlfiaoedfaa
open Go.RowKit Go.ChangeShapes Go.WideShapes Go.Deep Wm

structure Tran where
  Id : Nat
  Debit : Nat
  Credit : Nat
  Amount : Nat
  Pending : Nat
  Timeout : Int
  Ledger : Int
  Code : Int
  Flags : Int
  Stamp : Int
  Born : Int
  deriving Inhabited
/-- Its cells. -/
def Tran.cells (x : Tran) : List Value := [.int .u64 ((hiN x.Id : Nat) : Int), .int .u64 ((loN x.Id : Nat) : Int), .int .u64 ((hiN x.Debit : Nat) : Int), .int .u64 ((loN x.Debit : Nat) : Int), .int .u64 ((hiN x.Credit : Nat) : Int), .int .u64 ((loN x.Credit : Nat) : Int), .int .u64 ((hiN x.Amount : Nat) : Int), .int .u64 ((loN x.Amount : Nat) : Int), .int .u64 ((hiN x.Pending : Nat) : Int), .int .u64 ((loN x.Pending : Nat) : Int), .int .i64 x.Timeout, .int .i64 x.Ledger, .int .i64 x.Code, .int .i64 x.Flags, .int .i64 x.Stamp, .int .i64 x.Born]
theorem Tran.cells_length (x : Tran) : x.cells.length = 16 := rfl
structure Tran.Wf (x : Tran) : Prop where
  Id : x.Id < big
  Debit : x.Debit < big
  Credit : x.Credit < big
  Amount : x.Amount < big
  Pending : x.Pending < big
  Timeout : -9223372036854775808 ≤ x.Timeout ∧ x.Timeout ≤ 9223372036854775807
  Ledger : -9223372036854775808 ≤ x.Ledger ∧ x.Ledger ≤ 9223372036854775807
  Code : -9223372036854775808 ≤ x.Code ∧ x.Code ≤ 9223372036854775807
  Flags : -9223372036854775808 ≤ x.Flags ∧ x.Flags ≤ 9223372036854775807
  Stamp : -9223372036854775808 ≤ x.Stamp ∧ x.Stamp ≤ 9223372036854775807
  Born : -9223372036854775808 ≤ x.Born ∧ x.Born ≤ 9223372036854775807

theorem weightsAll_mem_tran {H : Type} {P : Program} {e : TypeId} : ∀ {l : List (DataW H)} {d : DataW H}, d ∈ l → ∀ n ∈ d.weights P e, n ∈ DataW.weightsAll P e l
  | d0 :: l, d, hd, n, hn => by
    simp only [DataW.weightsAll, List.mem_append]
    rcases List.mem_cons.mp hd with rfl | hd
    · exact .inl hn
    · exact .inr (weightsAll_mem_tran hd n hn)
  | [], _, hd, _, _ => by simp at hd
section
variable {H : Type} {enc : TypeId × Value → H} {w : World} {base : Nat} {spare : Nat → Bool} {held : Bool}
set_option maxRecDepth 100000 in
theorem tran_num {fuel : Nat} {cs : List Value} {x : DataW H × List MemPlace} (h : DataW.trod enc Try.prog w base spare held fuel 27 cs = some x) :
    ∃ n : Nat, n < big ∧ cs = [.int .u64 ((hiN n : Nat) : Int), .int .u64 ((loN n : Nat) : Int)] := by
  obtain ⟨xs, m, _, _, hlen, hxl, hf⟩ := DataW.trod_struct Try.underlying27 h
  have hC : Try.prog.cellsOf 27 = 2 := by kernel_rfl
  have hU : Try.prog.cellsOf 25 = 1 := by kernel_rfl
  rw [hC] at hlen
  match cs, hlen with
  | [c0, c1], _ =>
    match xs, hxl with
    | [x0, x1], _ =>
      have f0 := hf 0 _ rfl
      have f1 := hf 1 _ rfl
      simp [hU] at f0 f1
      obtain ⟨a, e0, _, wa⟩ := DataW.trod_int Try.underlying25 f0
      obtain ⟨b, e1, _, wb⟩ := DataW.trod_int Try.underlying25 f1
      simp at e0 e1
      subst e0 e1
      have ba := bounds_u64 wa
      have bb := bounds_u64 wb
      obtain ⟨y, rfl⟩ := Int.eq_ofNat_of_zero_le ba.1
      obtain ⟨z, rfl⟩ := Int.eq_ofNat_of_zero_le bb.1
      have hy : y < 18446744073709551616 := by omega
      have hz : z < 18446744073709551616 := by omega
      exact ⟨num y z, num_lt hy hz, by rw [hiN_num hz, loN_num hz]⟩
set_option maxRecDepth 100000 in
/-- One, opened. -/
theorem tran_open {fuel : Nat} {cs : List Value} {x : DataW H × List MemPlace} (h : DataW.trod enc Try.prog w base spare held fuel 61 cs = some x)
    (hz : ∀ n ∈ x.1.weights Try.prog 61, n ≤ reachBytes) : ∃ y : Tran, cs = y.cells ∧ y.Wf := by
  obtain ⟨xs, m, _, hx, hlen, hxl, hf⟩ := DataW.trod_struct Try.underlying61 h
  have hC : Try.prog.cellsOf 61 = 16 := by kernel_rfl
  have hU0 : Try.prog.cellsOf 27 = 2 := by kernel_rfl
  have hU1 : Try.prog.cellsOf 3 = 1 := by kernel_rfl
  rw [hC] at hlen
  subst hx
  match cs, hlen with
  | [c0, c1, c2, c3, c4, c5, c6, c7, c8, c9, c10, c11, c12, c13, c14, c15], _ =>
    match xs, hxl with
    | [x0, x1, x2, x3, x4, x5, x6, x7, x8, x9, x10], _ =>
      replace hz : ∀ n ∈ DataW.weightsEach Try.prog [27, 27, 27, 27, 27, 3, 3, 3, 3, 3, 3] [x0.1, x1.1, x2.1, x3.1, x4.1, x5.1, x6.1, x7.1, x8.1, x9.1, x10.1], n ≤ reachBytes := by
        intro n hn
        exact hz n (by simpa [DataW.weights, Try.underlying61] using hn)
      have f0 := hf 0 _ rfl
      simp [hU0] at f0
      have f1 := hf 1 _ rfl
      simp [hU0] at f1
      have f2 := hf 2 _ rfl
      simp [hU0] at f2
      have f3 := hf 3 _ rfl
      simp [hU0] at f3
      have f4 := hf 4 _ rfl
      simp [hU0] at f4
      have f5 := hf 5 _ rfl
      simp [hU1] at f5
      have f6 := hf 6 _ rfl
      simp [hU1] at f6
      have f7 := hf 7 _ rfl
      simp [hU1] at f7
      have f8 := hf 8 _ rfl
      simp [hU1] at f8
      have f9 := hf 9 _ rfl
      simp [hU1] at f9
      have f10 := hf 10 _ rfl
      simp [hU1] at f10
      obtain ⟨v0, n0, e0⟩ := tran_num f0
      simp at e0
      obtain ⟨rfl, rfl⟩ := e0
      obtain ⟨v1, n1, e1⟩ := tran_num f1
      simp at e1
      obtain ⟨rfl, rfl⟩ := e1
      obtain ⟨v2, n2, e2⟩ := tran_num f2
      simp at e2
      obtain ⟨rfl, rfl⟩ := e2
      obtain ⟨v3, n3, e3⟩ := tran_num f3
      simp at e3
      obtain ⟨rfl, rfl⟩ := e3
      obtain ⟨v4, n4, e4⟩ := tran_num f4
      simp at e4
      obtain ⟨rfl, rfl⟩ := e4
      obtain ⟨v5, e5, _, w5⟩ := DataW.trod_int Try.underlying3 f5
      simp at e5
      subst e5
      have b5 := bounds_i64 w5
      obtain ⟨v6, e6, _, w6⟩ := DataW.trod_int Try.underlying3 f6
      simp at e6
      subst e6
      have b6 := bounds_i64 w6
      obtain ⟨v7, e7, _, w7⟩ := DataW.trod_int Try.underlying3 f7
      simp at e7
      subst e7
      have b7 := bounds_i64 w7
      obtain ⟨v8, e8, _, w8⟩ := DataW.trod_int Try.underlying3 f8
      simp at e8
      subst e8
      have b8 := bounds_i64 w8
      obtain ⟨v9, e9, _, w9⟩ := DataW.trod_int Try.underlying3 f9
      simp at e9
      subst e9
      have b9 := bounds_i64 w9
      obtain ⟨v10, e10, _, w10⟩ := DataW.trod_int Try.underlying3 f10
      simp at e10
      subst e10
      have b10 := bounds_i64 w10
      exact ⟨⟨v0, v1, v2, v3, v4, v5, v6, v7, v8, v9, v10⟩, rfl, ⟨n0, n1, n2, n3, n4, b5, b6, b7, b8, b9, b10⟩⟩
end

/-- A slice of them in memory. -/
structure TransAt (w : World) (ao : Option Addr) (l : List Tran) : Prop where
  spot : ∀ k (h : k < l.length), ∃ b off, ao = some ⟨b, off, none⟩ ∧ b < w.heap.size ∧ ∀ j v, (l[k]).cells[j]? = some v → w.cell? ⟨b, off + k * 16 + j, none⟩ = some v
theorem TransAt.later {w w2 : World} {ao : Option Addr} {l : List Tran} (h : TransAt w ao l) (hb : Below w.heap.size w w2) : TransAt w2 ao l :=
  ⟨fun k hk => by
    obtain ⟨b, off, e, hlt, hc⟩ := h.spot k hk
    exact ⟨b, off, e, Nat.lt_of_lt_of_le hlt hb.size, fun j v hj => by rw [hb.cell (p := ⟨b, off + k * 16 + j, none⟩) hlt]; exact hc j v hj⟩⟩
theorem TransAt.below {B : Nat} {w w2 : World} {ao : Option Addr} {l : List Tran} (h : TransAt w ao l) (hb : Below B w w2) (hB : w.heap.size ≤ B) : TransAt w2 ao l := h.later (hb.mono hB)
section
variable {H : Type} {enc : TypeId × Value → H} {w : World} {base : Nat} {spare : Nat → Bool} {held : Bool}
end
end Go.Proofs.Ytfdanlfiaoedfaa
