/- Ucall: an argument of the type bondstorelaw14.Call, and of slices of it: what its cells hold. No condition. -/
import Derived.Test.YtkahohgbcnchiaaRows
import Derived.Deep.Slices
import Derived.ChangeArms
import Derived.ChangeSame
import Derived.OpenShut
import Derived.SizedLaws
import Derived.Below
import Derived.WalkKit
import Derived.KernelRfl
namespace Go.Proofs.Ytkahohgbcnchiaa
open Go.RowKit Go.ChangeShapes Go.WideShapes Go.Deep

structure Ucall where
  Kind : Int
  Second : Bool
  I : Int
  X : Int
  deriving Inhabited
/-- Its cells. -/
def Ucall.cells (x : Ucall) : List Value := [.int .i64 x.Kind, .bool x.Second, .int .i64 x.I, .int .i64 x.X]
theorem Ucall.cells_length (x : Ucall) : x.cells.length = 4 := rfl
structure Ucall.Wf (x : Ucall) : Prop where
  Kind : -9223372036854775808 ≤ x.Kind ∧ x.Kind ≤ 9223372036854775807
  I : -9223372036854775808 ≤ x.I ∧ x.I ≤ 9223372036854775807
  X : -9223372036854775808 ≤ x.X ∧ x.X ≤ 9223372036854775807

theorem weightsAll_mem_ucall {H : Type} {P : Program} {e : TypeId} : ∀ {l : List (DataW H)} {d : DataW H}, d ∈ l → ∀ n ∈ d.weights P e, n ∈ DataW.weightsAll P e l
  | d0 :: l, d, hd, n, hn => by
    simp only [DataW.weightsAll, List.mem_append]
    rcases List.mem_cons.mp hd with rfl | hd
    · exact .inl hn
    · exact .inr (weightsAll_mem_ucall hd n hn)
  | [], _, hd, _, _ => by simp at hd
section
variable {H : Type} {enc : TypeId × Value → H} {w : World} {base : Nat} {spare : Nat → Bool} {held : Bool}
set_option maxRecDepth 100000 in
/-- One, opened. -/
theorem ucall_open {fuel : Nat} {cs : List Value} {x : DataW H × List MemPlace} (h : DataW.trod enc Try.prog w base spare held fuel 33 cs = some x)
    (hz : ∀ n ∈ x.1.weights Try.prog 33, n ≤ reachBytes) : ∃ y : Ucall, cs = y.cells ∧ y.Wf := by
  obtain ⟨xs, m, _, hx, hlen, hxl, hf⟩ := DataW.trod_struct Try.underlying33 h
  have hC : Try.prog.cellsOf 33 = 4 := by kernel_rfl
  have hU0 : Try.prog.cellsOf 4 = 1 := by kernel_rfl
  have hU1 : Try.prog.cellsOf 3 = 1 := by kernel_rfl
  rw [hC] at hlen
  subst hx
  match cs, hlen with
  | [c0, c1, c2, c3], _ =>
    match xs, hxl with
    | [x0, x1, x2, x3], _ =>
      replace hz : ∀ n ∈ DataW.weightsEach Try.prog [3, 4, 3, 3] [x0.1, x1.1, x2.1, x3.1], n ≤ reachBytes := by
        intro n hn
        exact hz n (by simpa [DataW.weights, Try.underlying33] using hn)
      have f0 := hf 0 _ rfl
      simp [hU1] at f0
      have f1 := hf 1 _ rfl
      simp [hU0] at f1
      have f2 := hf 2 _ rfl
      simp [hU1] at f2
      have f3 := hf 3 _ rfl
      simp [hU1] at f3
      obtain ⟨v0, e0, _, w0⟩ := DataW.trod_int Try.underlying3 f0
      simp at e0
      subst e0
      have b0 := bounds_i64 w0
      obtain ⟨v1, e1, _⟩ := DataW.trod_bool Try.underlying4 f1
      simp at e1
      subst e1
      obtain ⟨v2, e2, _, w2⟩ := DataW.trod_int Try.underlying3 f2
      simp at e2
      subst e2
      have b2 := bounds_i64 w2
      obtain ⟨v3, e3, _, w3⟩ := DataW.trod_int Try.underlying3 f3
      simp at e3
      subst e3
      have b3 := bounds_i64 w3
      exact ⟨⟨v0, v1, v2, v3⟩, rfl, ⟨b0, b2, b3⟩⟩
set_option maxRecDepth 100000 in
/-- One, by value, opened. -/
theorem ucallv_open {r : Reach} {b0 : Nat} {v : Value} {d : DataW H} {p : List MemPlace} (hv : Value.okWide Try.prog w r b0 33 v) (h : DataW.Trod enc Try.prog w base spare held 33 v d p)
    (hz : ∀ n ∈ d.weights Try.prog 33, n ≤ reachBytes) : ∃ y : Ucall, v = .agg y.cells.toArray ∧ y.Wf := by
  obtain ⟨cs, rfl, _⟩ := okWide_struct Try.underlying33 hv
  obtain ⟨fuel, hf⟩ := h
  obtain ⟨y, e, hy⟩ := ucall_open hf hz
  refine ⟨y, ?_, hy⟩
  have e2 : cs.toList = y.cells := e
  rw [← e2]
end

/-- A slice of them in memory. -/
structure UcallsAt (w : World) (ao : Option Addr) (l : List Ucall) : Prop where
  spot : ∀ k (h : k < l.length), ∃ b off, ao = some ⟨b, off, none⟩ ∧ b < w.heap.size ∧ ∀ j v, (l[k]).cells[j]? = some v → w.cell? ⟨b, off + k * 4 + j, none⟩ = some v
theorem UcallsAt.later {w w2 : World} {ao : Option Addr} {l : List Ucall} (h : UcallsAt w ao l) (hb : Below w.heap.size w w2) : UcallsAt w2 ao l :=
  ⟨fun k hk => by
    obtain ⟨b, off, e, hlt, hc⟩ := h.spot k hk
    exact ⟨b, off, e, Nat.lt_of_lt_of_le hlt hb.size, fun j v hj => by rw [hb.cell (p := ⟨b, off + k * 4 + j, none⟩) hlt]; exact hc j v hj⟩⟩
theorem UcallsAt.below {B : Nat} {w w2 : World} {ao : Option Addr} {l : List Ucall} (h : UcallsAt w ao l) (hb : Below B w w2) (hB : w.heap.size ≤ B) : UcallsAt w2 ao l := h.later (hb.mono hB)
section
variable {H : Type} {enc : TypeId × Value → H} {w : World} {base : Nat} {spare : Nat → Bool} {held : Bool}
set_option maxRecDepth 100000 in
/-- .. opened. -/
theorem ucalls_open {r : Reach} {b0 : Nat} {v : Value} {d : DataW H} {p : List MemPlace} (hv : Value.okWide Try.prog w r b0 22 v) (h : DataW.Trod enc Try.prog w base spare held 22 v d p)
    (hz : ∀ n ∈ d.weights Try.prog 22, n ≤ reachBytes) : ∃ (ao : Option Addr) (cap : Nat) (l : List Ucall), v = .slice ao l.length cap ∧ UcallsAt w ao l ∧ (∀ x ∈ l, x.Wf) ∧ l.length ≤ 140737488351232 := by
  obtain ⟨a0, len, cap, rfl⟩ := okWide_slice Try.underlying22 hv
  obtain ⟨fuel, hf⟩ := h
  rcases open_slice Try.underlying22 hf with ⟨hc, hx⟩ | ⟨a, len', cap', m, n, D, Pl, hc, hb, hl, hm, hmm, hx, hi⟩
  · simp [Value.cells] at hc
    obtain ⟨rfl, rfl, rfl⟩ := hc
    exact ⟨none, 0, [], rfl, ⟨fun k hk => by simp at hk⟩, fun x hx => by simp at hx, by simp⟩
  · simp [Value.cells] at hc
    obtain ⟨rfl, rfl, rfl⟩ := hc
    have hC : Try.prog.cellsOf 33 = 4 := by kernel_rfl
    have hle : len ≤ m := by rw [hmm]; split <;> omega
    obtain rfl : d = _ := congrArg Prod.fst hx
    have hbytes : 1 ≤ Try.prog.bytesOf 33 := by decide +kernel
    have hlen : len ≤ 140737488351232 := by
      have := hz (((List.range len).map D).length + ((List.range (m - len)).map fun j => D (len + j)).length |>.mul (Try.prog.bytesOf 33)) (by simp [DataW.weights, Try.underlying22])
      simp at this
      have h2 := Nat.le_mul_of_pos_right (len + (m - len)) hbytes
      unfold reachBytes at this
      omega
    have key : ∀ i, i < len → ∃ y : Ucall, (∀ j v, y.cells[j]? = some v → w.cell? (a.add (i * 4 + j)) = some v) ∧ y.Wf := by
      intro i him
      obtain ⟨cs', h1, h2⟩ := hi i (by omega)
      rw [hC] at h1
      obtain ⟨y, rfl, hy⟩ := ucall_open h2 (fun q hq => hz q (by
        simp only [DataW.weights, Try.underlying22, List.mem_cons, List.mem_append]
        right; left
        exact weightsAll_mem_ucall (d := D i) (List.mem_map.mpr ⟨i, List.mem_range.mpr him, rfl⟩) q hq))
      obtain ⟨_, _, hat⟩ := World.cells?_some h1
      refine ⟨y, fun j v hj => ?_, hy⟩
      have hjn : j < 4 := by have := (List.getElem?_eq_some_iff.1 hj).1; rw [Ucall.cells_length] at this; exact this
      rw [← Go.Deep.add_add, hat j hjn, hj]
    obtain ⟨f, hfs⟩ := choose_lt key
    refine ⟨some a, cap, (List.range len).map f, by simp, ⟨fun k hk => ?_⟩, fun x hx => ?_, by simpa using hlen⟩
    · have hk2 : k < len := by simpa using hk
      obtain ⟨hcell, _⟩ := hfs k hk2
      have c0 := hcell 0 _ rfl
      obtain ⟨b, off, spot⟩ := a
      have hs : spot = none ∨ k * 4 ≠ 0 := by
        by_cases hk0 : k * 4 = 0
        · left
          rw [hk0] at c0
          cases spot with
          | none => rfl
          | some z => exfalso; simp [Addr.add, World.cell?] at c0; split at c0 <;> simp at c0
        · right; exact hk0
      have hs2 : spot = none := by
        rcases hs with h | h
        · exact h
        · obtain ⟨hc0, _⟩ := hfs 0 (by omega)
          have c0 := hc0 0 _ rfl
          cases spot with
          | none => rfl
          | some z => exfalso; simp [Addr.add, World.cell?] at c0; split at c0 <;> simp at c0
      subst hs2
      refine ⟨b, off, rfl, ?_, fun j v hj => ?_⟩
      · have := World.block_lt_of_cell? w _ c0
        unfold Addr.add at this; split at this <;> exact this
      · have hj2 : (f k).cells[j]? = some v := by simpa using hj
        have := hcell j v hj2
        unfold Addr.add at this
        split at this
        · rename_i h0; rw [show off + k * 4 + j = off by omega]; exact this
        · rw [show off + k * 4 + j = off + (k * 4 + j) by omega]; exact this
    · obtain ⟨i, hi2, rfl⟩ := List.mem_map.mp hx
      exact (hfs i (List.mem_range.mp hi2)).2
end
end Go.Proofs.Ytkahohgbcnchiaa
