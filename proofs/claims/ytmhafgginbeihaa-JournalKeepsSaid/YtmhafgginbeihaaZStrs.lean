/- A slice of strings that came in as an argument. No condition. -/
import Derived.Test.YtmhafgginbeihaaRows
import Derived.Deep.Slices
import Derived.ChangeArms
import Derived.ChangeSame
import Derived.OpenShut
import Derived.SizedLaws
import Derived.Below
import Derived.WalkKit
import Derived.KernelRfl
namespace Go.Proofs.Ytmhafgginbeihaa
open Go.RowKit Go.ChangeShapes Go.WideShapes Go.Deep

structure StrsAt (w : World) (ao : Option Addr) (l : List ByteArray) : Prop where
  spot : ∀ k (h : k < l.length), ∃ b off, ao = some ⟨b, off, none⟩ ∧ b < w.heap.size ∧ w.cell? ⟨b, off + k, none⟩ = some (.string l[k])
theorem StrsAt.later {w w2 : World} {ao : Option Addr} {l : List ByteArray} (h : StrsAt w ao l) (hb : Below w.heap.size w w2) : StrsAt w2 ao l :=
  ⟨fun k hk => by
    obtain ⟨b, off, e, hlt, hc⟩ := h.spot k hk
    exact ⟨b, off, e, Nat.lt_of_lt_of_le hlt hb.size, by rw [hb.cell (p := ⟨b, off + k, none⟩) hlt]; exact hc⟩⟩
theorem StrsAt.below {B : Nat} {w w2 : World} {ao : Option Addr} {l : List ByteArray} (h : StrsAt w ao l) (hb : Below B w w2) (hB : w.heap.size ≤ B) : StrsAt w2 ao l := h.later (hb.mono hB)
theorem weightsAll_memS {H : Type} {P : Program} {e : TypeId} : ∀ {l : List (DataW H)} {d : DataW H}, d ∈ l → ∀ n ∈ d.weights P e, n ∈ DataW.weightsAll P e l
  | d0 :: l, d, hd, n, hn => by
    simp only [DataW.weightsAll, List.mem_append]
    rcases List.mem_cons.mp hd with rfl | hd
    · exact .inl hn
    · exact .inr (weightsAll_memS hd n hn)
  | [], _, hd, _, _ => by simp at hd
section
variable {H : Type} {enc : TypeId × Value → H} {w : World} {base : Nat} {spare : Nat → Bool} {held : Bool}
set_option maxRecDepth 100000 in
theorem strs_open {r : Reach} {b0 : Nat} {v : Value} {d : DataW H} {p : List MemPlace} (hv : Value.okWide Try.prog w r b0 28 v) (h : DataW.Trod enc Try.prog w base spare held 28 v d p)
    (hz : ∀ n ∈ d.weights Try.prog 28, n ≤ reachBytes) : ∃ (ao : Option Addr) (cap : Nat) (l : List ByteArray), v = .slice ao l.length cap ∧ StrsAt w ao l ∧ (∀ x ∈ l, x.size ≤ 140737488351232) ∧ l.length ≤ 140737488351232 := by
  obtain ⟨a0, len, cap, rfl⟩ := okWide_slice Try.underlying28 hv
  obtain ⟨fuel, hf⟩ := h
  have hC : Try.prog.cellsOf 9 = 1 := by kernel_rfl
  rcases open_slice1 Try.underlying28 hC hf with ⟨hc, hx⟩ | ⟨a, len', cap', m, n, V, D, Pl, hc, hb, hl, hm, hmm, hx, hi⟩
  · simp [Value.cells] at hc
    obtain ⟨rfl, rfl, rfl⟩ := hc
    exact ⟨none, 0, [], rfl, ⟨fun k hk => by simp at hk⟩, fun x hx => by simp at hx, by simp⟩
  · simp [Value.cells] at hc
    obtain ⟨rfl, rfl, rfl⟩ := hc
    have hle : len ≤ m := by rw [hmm]; split <;> omega
    obtain rfl : d = _ := congrArg Prod.fst hx
    have hbytes : 1 ≤ Try.prog.bytesOf 9 := by decide +kernel
    have hlen : len ≤ 140737488351232 := by
      have := hz (((List.range len).map D).length + ((List.range (m - len)).map fun j => D (len + j)).length |>.mul (Try.prog.bytesOf 9)) (by simp [DataW.weights, Try.underlying28])
      simp at this
      have h2 := Nat.le_mul_of_pos_right (len + (m - len)) hbytes
      unfold reachBytes at this
      omega
    have key : ∀ i, i < len → ∃ y : ByteArray, w.cell? (a.add i) = some (.string y) ∧ y.size ≤ 140737488351232 := by
      intro i him
      obtain ⟨h1, h2⟩ := hi i (by omega)
      obtain ⟨s, e1, e2, _⟩ := DataW.trod_string Try.underlying9 h2
      simp at e1
      refine ⟨s, by rw [h1, e1], ?_⟩
      have := hz s.data.toList.length (by
        simp only [DataW.weights, Try.underlying28, List.mem_cons, List.mem_append]
        right; left
        refine weightsAll_memS (d := D i) (List.mem_map.mpr ⟨i, List.mem_range.mpr him, rfl⟩) _ ?_
        rw [show D i = _ from congrArg Prod.fst e2]; simp [DataW.weights])
      have e : s.data.toList.length = s.size := rfl
      unfold reachBytes at this
      omega
    have : Inhabited ByteArray := ⟨ByteArray.empty⟩
    obtain ⟨f, hfs⟩ := choose_lt key
    refine ⟨some a, cap, (List.range len).map f, by simp, ⟨fun k hk => ?_⟩, fun x hx => ?_, by simpa using hlen⟩
    · have hk2 : k < len := by simpa using hk
      obtain ⟨hcell, _⟩ := hfs k hk2
      obtain ⟨c0, _⟩ := hfs 0 (by omega)
      obtain ⟨b, off, spot⟩ := a
      have hs2 : spot = none := by
        cases spot with
        | none => rfl
        | some z => exfalso; simp [Addr.add, World.cell?] at c0; split at c0 <;> simp at c0
      subst hs2
      refine ⟨b, off, rfl, ?_, ?_⟩
      · have := World.block_lt_of_cell? w _ c0
        simpa [Addr.add] using this
      · have e : ((List.range len).map f)[k] = f k := by simp
        rw [e]
        unfold Addr.add at hcell
        split at hcell
        · rename_i h0; subst h0; exact hcell
        · exact hcell
    · obtain ⟨i, hi2, rfl⟩ := List.mem_map.mp hx
      exact (hfs i (List.mem_range.mp hi2)).2
end
end Go.Proofs.Ytmhafgginbeihaa
