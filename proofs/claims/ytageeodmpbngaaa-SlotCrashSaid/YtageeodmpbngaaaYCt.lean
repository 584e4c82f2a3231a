/- The landed Bytes and FromBytes of a sum. No condition but the sum's size. -/
import Derived.Test.YtageeodmpbngaaaYCs
import Derived.Lib.LazyBuf
namespace Go.Proofs.Ytageeodmpbngaaa
open Go.RowKit Go.Sort Cr

/-- Byte j of a sum. -/
def byte4 (c j : Nat) : UInt8 := byteU (c / 2 ^ (8 * j))
theorem fourL_map (c : Nat) : fourL c = (List.range 4).map (byte4 c) := by
  unfold fourL byte4
  simp [List.range_succ]
/-- What lies in memory while the bytes are laid. -/
structure By4 (w wr : World) (c k : Nat) : Prop where
  old : ∀ j, j < 4 → ∃ v, wr.cell? ⟨w.heap.size, j, none⟩ = some v
  fz : ∀ j, wr.frozen? ⟨w.heap.size, j, none⟩ = false
  lo : ∀ j, j < k → wr.cell? ⟨w.heap.size, j, none⟩ = some (.int .u8 (((byte4 c j).toNat : Nat) : Int))
  below : Below w.heap.size w wr
theorem By4.put {w wr : World} {c k : Nat} (h : By4 w wr c k) (hk : k < 4) (x : Int) (hx : x = (((byte4 c k).toNat : Nat) : Int)) :
    By4 w (wr.setCell ⟨w.heap.size, k, none⟩ (.int .u8 x)) c (k + 1) := by
  obtain ⟨u, hu⟩ := h.old k (by omega)
  have far : ∀ j, j ≠ k → (wr.setCell ⟨w.heap.size, k, none⟩ (.int .u8 x)).cell? ⟨w.heap.size, j, none⟩ = wr.cell? ⟨w.heap.size, j, none⟩ := fun j hj => by
    rw [World.cell?_setCell_other]
    intro e; injection e with e1 e2 _; omega
  have same : (wr.setCell ⟨w.heap.size, k, none⟩ (.int .u8 x)).cell? ⟨w.heap.size, k, none⟩ = some (.int .u8 x) := World.cell?_setCell_same _ _ _ hu
  refine ⟨fun j hj => ?_, fun j => by simpa using h.fz j, fun j hj => ?_, h.below.setCell (Nat.le_refl _) _⟩
  · by_cases e : j = k
    · subst e; exact ⟨_, same⟩
    · rw [far j e]; exact h.old j hj
  · by_cases e : j = k
    · subst e; rw [same, hx]
    · rw [far j e]; exact h.lo j (by omega)
theorem rep4 (v : Value) (j : Nat) (hj : j < 4) : (#[v, v, v, v] : Array Value)[j]? = some v := by
  have e : (#[v, v, v, v] : Array Value) = (List.replicate 4 v).toArray := rfl
  rw [e, List.getElem?_toArray, List.getElem?_replicate, if_pos hj]
theorem By4.text {w wr : World} {c : Nat} (h : By4 w wr c 4) :
    (convert 58 9 (.slice (some ⟨w.heap.size, 0, none⟩) 4 4)).run Try.prog wr = .ok (.string (fourT c)) wr := by
  have := run_convert_bytes_back (P := Try.prog) wr 58 9 5 ⟨w.heap.size, 0, none⟩ 4 (fourL c) Try.underlying58 Try.underlying5 Try.underlying9 (fun j hj => by
    have hj2 : j < 4 := hj
    have := h.lo j hj2
    have e : (fourL c)[j]'hj = byte4 c j := by simp [fourL_map]
    rw [e]
    simp only [Addr.add]
    split
    · rename_i h0; subst h0; simpa using this
    · simpa using this)
  exact this
theorem run_slice4 (s : Nat) (W : World) :
    (Instr.sliceAt 98 (.pointer (some ⟨s, 0, none⟩)) none none none).run Try.prog W = .ok (.slice (some ⟨s, 0, none⟩) 4 4) W := by
  have h4 : Try.prog.arrayLen 98 = 4 := by kernel_rfl
  rw [run_sliceAt_array_all (P := Try.prog) W 98 ⟨s, 0, none⟩ (by kernel_rfl), h4]
  have hs : ∀ W, (sizeOf (Try.prog.elem 98)).run Try.prog W = .ok 1 W := fun W => by kernel_rfl
  rw [hs]
  simp [Result.andThen, slicedAt, Addr.add]
theorem cast_div_pow4 (c k : Nat) : ((c : Nat) : Int) / 2 ^ (8 * k) = ((c / 2 ^ (8 * k) : Nat) : Int) := by
  rw [Int.natCast_ediv, Int.natCast_pow]; rfl

set_option maxRecDepth 100000 in
set_option maxHeartbeats 1000000 in
theorem bytes4_any (c : Nat) (_hc : c < W) (w : World) :
    Calls Try.prog 51 #[.int .u32 ((c : Nat) : Int)] w fun e w' => e = .returned (.string (fourT c)) ∧ Below w.heap.size w w' := by
  rw [W_eq] at _hc
  go_enter Try.func51, Try.ntmps51
  go_wp2
  go_loopw [5] (fun i wr => ∃ k : Nat, k ≤ 4 ∧ i = .int .i64 k ∧ By4 w wr c k) (fun i _ => (4 - RowKit.intOf i).toNat)
  case atStart =>
    refine ⟨0, by omega, rfl, ⟨fun j hj => ⟨.int .u8 0, ?_⟩, fun j => by simp [go_sem], fun j hj => by omega, (Below.refl _ _).alloc (Nat.le_refl _) _⟩⟩
    simp only [go_sem]
    exact rep4 _ j hj
  case round =>
    obtain ⟨k, hk, rfl, hS⟩ := hrel
    by_cases hlt : k < 4
    · obtain ⟨v0, t0⟩ := hS.old k (by omega)
      have f0 := hS.fz k
      go_wp2
      refine ⟨⟨k + 1, by omega, by go_num, hS.put hlt _ ?_⟩, by simp [RowKit.intOf]; omega⟩
      rw [cast_div_pow4]
      unfold byte4
      rw [byteU_toNat]
      exact (Int.natCast_emod _ _).symm
    · obtain rfl : k = 4 := by omega
      have htx := hS.text
      have hsl := run_slice4 w.heap.size
      go_wp2
      go_ret
      exact ⟨rfl, hS.below⟩

end Go.Proofs.Ytageeodmpbngaaa
