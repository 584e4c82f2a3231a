/- Qit: an argument of the type queue.Item, and of slices of it: what its cells hold. No condition. -/
import Derived.Test.YtgdlcfkgdaaooaaRows
import Derived.Test.YtgdlcfkgdaaooaaMath
import Derived.Deep.Slices
import Derived.ChangeArms
import Derived.ChangeSame
import Derived.OpenShut
import Derived.SizedLaws
import Derived.Below
import Derived.WalkKit
import Derived.KernelRfl
namespace Go.Proofs.Ytgdlcfkgdaaooaa
open Go.RowKit Go.ChangeShapes Go.WideShapes Go.Deep Wm

structure Qit where
  Due : Int
  Stamp : Int
  Id : Nat
  deriving Inhabited
/-- Its cells. -/
def Qit.cells (x : Qit) : List Value := [.int .i64 x.Due, .int .i64 x.Stamp, .int .u64 ((hiN x.Id : Nat) : Int), .int .u64 ((loN x.Id : Nat) : Int)]
theorem Qit.cells_length (x : Qit) : x.cells.length = 4 := rfl
structure Qit.Wf (x : Qit) : Prop where
  Due : -9223372036854775808 ≤ x.Due ∧ x.Due ≤ 9223372036854775807
  Stamp : -9223372036854775808 ≤ x.Stamp ∧ x.Stamp ≤ 9223372036854775807
  Id : x.Id < big

theorem weightsAll_mem_qit {H : Type} {P : Program} {e : TypeId} : ∀ {l : List (DataW H)} {d : DataW H}, d ∈ l → ∀ n ∈ d.weights P e, n ∈ DataW.weightsAll P e l
  | d0 :: l, d, hd, n, hn => by
    simp only [DataW.weightsAll, List.mem_append]
    rcases List.mem_cons.mp hd with rfl | hd
    · exact .inl hn
    · exact .inr (weightsAll_mem_qit hd n hn)
  | [], _, hd, _, _ => by simp at hd
section
variable {H : Type} {enc : TypeId × Value → H} {w : World} {base : Nat} {spare : Nat → Bool} {held : Bool}
theorem qit_num {fuel : Nat} {cs : List Value} {x : DataW H × List MemPlace} (h : DataW.trod enc Try.prog w base spare held fuel 32 cs = some x) :
    ∃ n : Nat, n < big ∧ cs = [.int .u64 ((hiN n : Nat) : Int), .int .u64 ((loN n : Nat) : Int)] := by
  obtain ⟨xs, m, _, _, hlen, hxl, hf⟩ := DataW.trod_struct Try.underlying32 h
  have hC : Try.prog.cellsOf 32 = 2 := by kernel_rfl
  have hU : Try.prog.cellsOf 30 = 1 := by kernel_rfl
  rw [hC] at hlen
  match cs, hlen with
  | [c0, c1], _ =>
    match xs, hxl with
    | [x0, x1], _ =>
      have f0 := hf 0 _ rfl
      have f1 := hf 1 _ rfl
      simp [hU] at f0 f1
      obtain ⟨a, e0, _, wa⟩ := DataW.trod_int Try.underlying30 f0
      obtain ⟨b, e1, _, wb⟩ := DataW.trod_int Try.underlying30 f1
      simp at e0 e1
      subst e0 e1
      have ba := bounds_u64 wa
      have bb := bounds_u64 wb
      obtain ⟨y, rfl⟩ := Int.eq_ofNat_of_zero_le ba.1
      obtain ⟨z, rfl⟩ := Int.eq_ofNat_of_zero_le bb.1
      have hy : y < 18446744073709551616 := by omega
      have hz : z < 18446744073709551616 := by omega
      exact ⟨num y z, num_lt hy hz, by rw [hiN_num hz, loN_num hz]⟩
set_option maxRecDepth 100000 in
/-- One, opened. -/
theorem qit_open {fuel : Nat} {cs : List Value} {x : DataW H × List MemPlace} (h : DataW.trod enc Try.prog w base spare held fuel 34 cs = some x)
    (hz : ∀ n ∈ x.1.weights Try.prog 34, n ≤ reachBytes) : ∃ y : Qit, cs = y.cells ∧ y.Wf := by
  obtain ⟨xs, m, _, hx, hlen, hxl, hf⟩ := DataW.trod_struct Try.underlying34 h
  have hC : Try.prog.cellsOf 34 = 4 := by kernel_rfl
  have hU0 : Try.prog.cellsOf 32 = 2 := by kernel_rfl
  have hU1 : Try.prog.cellsOf 3 = 1 := by kernel_rfl
  rw [hC] at hlen
  subst hx
  match cs, hlen with
  | [c0, c1, c2, c3], _ =>
    match xs, hxl with
    | [x0, x1, x2], _ =>
      replace hz : ∀ n ∈ DataW.weightsEach Try.prog [3, 3, 32] [x0.1, x1.1, x2.1], n ≤ reachBytes := by
        intro n hn
        exact hz n (by simpa [DataW.weights, Try.underlying34] using hn)
      have f0 := hf 0 _ rfl
      simp [hU1] at f0
      have f1 := hf 1 _ rfl
      simp [hU1] at f1
      have f2 := hf 2 _ rfl
      simp [hU0] at f2
      obtain ⟨v0, e0, _, w0⟩ := DataW.trod_int Try.underlying3 f0
      simp at e0
      subst e0
      have b0 := bounds_i64 w0
      obtain ⟨v1, e1, _, w1⟩ := DataW.trod_int Try.underlying3 f1
      simp at e1
      subst e1
      have b1 := bounds_i64 w1
      obtain ⟨v2, n2, e2⟩ := qit_num f2
      simp at e2
      obtain ⟨rfl, rfl⟩ := e2
      exact ⟨⟨v0, v1, v2⟩, rfl, ⟨b0, b1, n2⟩⟩
set_option maxRecDepth 100000 in
/-- One, by value, opened. -/
theorem qitv_open {r : Reach} {b0 : Nat} {v : Value} {d : DataW H} {p : List MemPlace} (hv : Value.okWide Try.prog w r b0 34 v) (h : DataW.Trod enc Try.prog w base spare held 34 v d p)
    (hz : ∀ n ∈ d.weights Try.prog 34, n ≤ reachBytes) : ∃ y : Qit, v = .agg y.cells.toArray ∧ y.Wf := by
  obtain ⟨cs, rfl, _⟩ := okWide_struct Try.underlying34 hv
  obtain ⟨fuel, hf⟩ := h
  obtain ⟨y, e, hy⟩ := qit_open hf hz
  refine ⟨y, ?_, hy⟩
  have e2 : cs.toList = y.cells := e
  rw [← e2]
end

/-- A slice of them in memory. -/
structure QitsAt (w : World) (ao : Option Addr) (l : List Qit) : Prop where
  spot : ∀ k (h : k < l.length), ∃ b off, ao = some ⟨b, off, none⟩ ∧ b < w.heap.size ∧ ∀ j v, (l[k]).cells[j]? = some v → w.cell? ⟨b, off + k * 4 + j, none⟩ = some v
theorem QitsAt.later {w w2 : World} {ao : Option Addr} {l : List Qit} (h : QitsAt w ao l) (hb : Below w.heap.size w w2) : QitsAt w2 ao l :=
  ⟨fun k hk => by
    obtain ⟨b, off, e, hlt, hc⟩ := h.spot k hk
    exact ⟨b, off, e, Nat.lt_of_lt_of_le hlt hb.size, fun j v hj => by rw [hb.cell (p := ⟨b, off + k * 4 + j, none⟩) hlt]; exact hc j v hj⟩⟩
theorem QitsAt.below {B : Nat} {w w2 : World} {ao : Option Addr} {l : List Qit} (h : QitsAt w ao l) (hb : Below B w w2) (hB : w.heap.size ≤ B) : QitsAt w2 ao l := h.later (hb.mono hB)
section
variable {H : Type} {enc : TypeId × Value → H} {w : World} {base : Nat} {spare : Nat → Bool} {held : Bool}
set_option maxRecDepth 100000 in
/-- .. opened. -/
theorem qits_open {r : Reach} {b0 : Nat} {v : Value} {d : DataW H} {p : List MemPlace} (hv : Value.okWide Try.prog w r b0 25 v) (h : DataW.Trod enc Try.prog w base spare held 25 v d p)
    (hz : ∀ n ∈ d.weights Try.prog 25, n ≤ reachBytes) : ∃ (ao : Option Addr) (cap : Nat) (l : List Qit), v = .slice ao l.length cap ∧ QitsAt w ao l ∧ (∀ x ∈ l, x.Wf) ∧ l.length ≤ 140737488351232 := by
  obtain ⟨a0, len, cap, rfl⟩ := okWide_slice Try.underlying25 hv
  obtain ⟨fuel, hf⟩ := h
  rcases open_slice Try.underlying25 hf with ⟨hc, hx⟩ | ⟨a, len', cap', m, n, D, Pl, hc, hb, hl, hm, hmm, hx, hi⟩
  · simp [Value.cells] at hc
    obtain ⟨rfl, rfl, rfl⟩ := hc
    exact ⟨none, 0, [], rfl, ⟨fun k hk => by simp at hk⟩, fun x hx => by simp at hx, by simp⟩
  · simp [Value.cells] at hc
    obtain ⟨rfl, rfl, rfl⟩ := hc
    have hC : Try.prog.cellsOf 34 = 4 := by kernel_rfl
    have hle : len ≤ m := by rw [hmm]; split <;> omega
    obtain rfl : d = _ := congrArg Prod.fst hx
    have hbytes : 1 ≤ Try.prog.bytesOf 34 := by decide +kernel
    have hlen : len ≤ 140737488351232 := by
      have := hz (((List.range len).map D).length + ((List.range (m - len)).map fun j => D (len + j)).length |>.mul (Try.prog.bytesOf 34)) (by simp [DataW.weights, Try.underlying25])
      simp at this
      have h2 := Nat.le_mul_of_pos_right (len + (m - len)) hbytes
      unfold reachBytes at this
      omega
    have key : ∀ i, i < len → ∃ y : Qit, (∀ j v, y.cells[j]? = some v → w.cell? (a.add (i * 4 + j)) = some v) ∧ y.Wf := by
      intro i him
      obtain ⟨cs', h1, h2⟩ := hi i (by omega)
      rw [hC] at h1
      obtain ⟨y, rfl, hy⟩ := qit_open h2 (fun q hq => hz q (by
        simp only [DataW.weights, Try.underlying25, List.mem_cons, List.mem_append]
        right; left
        exact weightsAll_mem_qit (d := D i) (List.mem_map.mpr ⟨i, List.mem_range.mpr him, rfl⟩) q hq))
      obtain ⟨_, _, hat⟩ := World.cells?_some h1
      refine ⟨y, fun j v hj => ?_, hy⟩
      have hjn : j < 4 := by have := (List.getElem?_eq_some_iff.1 hj).1; rw [Qit.cells_length] at this; exact this
      rw [← Go.Deep.add_add, hat j hjn, hj]
    obtain ⟨f, hfs⟩ := choose_lt key
    refine ⟨some a, cap, (List.range len).map f, by simp, ⟨fun k hk => ?_⟩, fun x hx => ?_, by simpa using hlen⟩
    · have hk2 : k < len := by simpa using hk
      obtain ⟨hcell, _⟩ := hfs k hk2
      have c0 := hcell 0 _ rfl
      obtain ⟨b, off, spot⟩ := a
      have hs : spot = none ∨ k * 4 ≠ 0 := by
        by_cases hk0 : k * 4 = 0
        · left
          rw [hk0] at c0
          cases spot with
          | none => rfl
          | some z => exfalso; simp [Addr.add, World.cell?] at c0; split at c0 <;> simp at c0
        · right; exact hk0
      have hs2 : spot = none := by
        rcases hs with h | h
        · exact h
        · obtain ⟨hc0, _⟩ := hfs 0 (by omega)
          have c0 := hc0 0 _ rfl
          cases spot with
          | none => rfl
          | some z => exfalso; simp [Addr.add, World.cell?] at c0; split at c0 <;> simp at c0
      subst hs2
      refine ⟨b, off, rfl, ?_, fun j v hj => ?_⟩
      · have := World.block_lt_of_cell? w _ c0
        unfold Addr.add at this; split at this <;> exact this
      · have hj2 : (f k).cells[j]? = some v := by simpa using hj
        have := hcell j v hj2
        unfold Addr.add at this
        split at this
        · rename_i h0; rw [show off + k * 4 + j = off by omega]; exact this
        · rw [show off + k * 4 + j = off + (k * 4 + j) by omega]; exact this
    · obtain ⟨i, hi2, rfl⟩ := List.mem_map.mp hx
      exact (hfs i (List.mem_range.mp hi2)).2
end
end Go.Proofs.Ytgdlcfkgdaaooaa
