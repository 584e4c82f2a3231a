/- The landed Bytes and FromBytes of a sum. No condition but the sum's size. -/
import Derived.Test.YtbjhkggdklnkjaaCs
import Derived.Lib.LazyBuf
namespace Go.Proofs.Ytbjhkggdklnkjaa
open Go.RowKit Go.Sort Cr

/-- Byte j of a sum. -/
def byte4 (c j : Nat) : UInt8 := byteU (c / 2 ^ (8 * j))
theorem fourL_map (c : Nat) : fourL c = (List.range 4).map (byte4 c) := by
  unfold fourL byte4
  simp [List.range_succ]
/-- What lies in memory while the bytes are laid. -/
structure By4 (w wr : World) (c k : Nat) : Prop where
  old : ∀ j, j < 4 → ∃ v, wr.cell? ⟨w.heap.size, j, none⟩ = some v
  fz : ∀ j, wr.frozen? ⟨w.heap.size, j, none⟩ = false
  lo : ∀ j, j < k → wr.cell? ⟨w.heap.size, j, none⟩ = some (.int .u8 (((byte4 c j).toNat : Nat) : Int))
  below : Below w.heap.size w wr
theorem By4.put {w wr : World} {c k : Nat} (h : By4 w wr c k) (hk : k < 4) (x : Int) (hx : x = (((byte4 c k).toNat : Nat) : Int)) :
    By4 w (wr.setCell ⟨w.heap.size, k, none⟩ (.int .u8 x)) c (k + 1) := by
  obtain ⟨u, hu⟩ := h.old k (by omega)
  have far : ∀ j, j ≠ k → (wr.setCell ⟨w.heap.size, k, none⟩ (.int .u8 x)).cell? ⟨w.heap.size, j, none⟩ = wr.cell? ⟨w.heap.size, j, none⟩ := fun j hj => by
    rw [World.cell?_setCell_other]
    intro e; injection e with e1 e2 _; omega
  have same : (wr.setCell ⟨w.heap.size, k, none⟩ (.int .u8 x)).cell? ⟨w.heap.size, k, none⟩ = some (.int .u8 x) := World.cell?_setCell_same _ _ _ hu
  refine ⟨fun j hj => ?_, fun j => by simpa using h.fz j, fun j hj => ?_, h.below.setCell (Nat.le_refl _) _⟩
  · by_cases e : j = k
    · subst e; exact ⟨_, same⟩
    · rw [far j e]; exact h.old j hj
  · by_cases e : j = k
    · subst e; rw [same, hx]
    · rw [far j e]; exact h.lo j (by omega)
theorem rep4 (v : Value) (j : Nat) (hj : j < 4) : (#[v, v, v, v] : Array Value)[j]? = some v := by
  have e : (#[v, v, v, v] : Array Value) = (List.replicate 4 v).toArray := rfl
  rw [e, List.getElem?_toArray, List.getElem?_replicate, if_pos hj]
theorem fourL_length (c : Nat) : (fourL c).length = 4 := rfl
theorem By4.text {w wr : World} {c : Nat} (h : By4 w wr c 4) :
    (convert 31 9 (.slice (some ⟨w.heap.size, 0, none⟩) 4 4)).run Try.prog wr = .ok (.string (fourT c)) wr := by
  have := run_convert_bytes_back (P := Try.prog) wr 31 9 5 ⟨w.heap.size, 0, none⟩ 4 (fourL c) Try.underlying31 Try.underlying5 Try.underlying9 (fun j hj => by
    have hj2 : j < 4 := hj
    have := h.lo j hj2
    have e : (fourL c)[j]'hj = byte4 c j := by simp [fourL_map]
    rw [e]
    simp only [Addr.add]
    split
    · rename_i h0; subst h0; simpa using this
    · simpa using this)
  exact this
theorem run_slice4 (s : Nat) (W : World) :
    (Instr.sliceAt 36 (.pointer (some ⟨s, 0, none⟩)) none none none).run Try.prog W = .ok (.slice (some ⟨s, 0, none⟩) 4 4) W := by
  have h4 : Try.prog.arrayLen 36 = 4 := by kernel_rfl
  rw [run_sliceAt_array_all (P := Try.prog) W 36 ⟨s, 0, none⟩ (by kernel_rfl), h4]
  have hs : ∀ W, (sizeOf (Try.prog.elem 36)).run Try.prog W = .ok 1 W := fun W => by kernel_rfl
  rw [hs]
  simp [Result.andThen, slicedAt, Addr.add]
theorem cast_div_pow4 (c k : Nat) : ((c : Nat) : Int) / 2 ^ (8 * k) = ((c / 2 ^ (8 * k) : Nat) : Int) := by
  rw [Int.natCast_ediv, Int.natCast_pow]; rfl

set_option maxRecDepth 100000 in
set_option maxHeartbeats 1000000 in
theorem bytes4_any (c : Nat) (hc : c < W) (w : World) :
    Calls Try.prog 11 #[.int .u32 ((c : Nat) : Int)] w fun e w' => e = .returned (.string (fourT c)) ∧ Below w.heap.size w w' := by
  rw [W_eq] at hc
  go_enter Try.func11, Try.ntmps11
  go_wp2
  go_loopw [5] (fun i wr => ∃ k : Nat, k ≤ 4 ∧ i = .int .i64 k ∧ By4 w wr c k) (fun i _ => (4 - intOf i).toNat)
  case atStart =>
    refine ⟨0, by omega, rfl, ⟨fun j hj => ⟨.int .u8 0, ?_⟩, fun j => by simp [go_sem], fun j hj => by omega, (Below.refl _ _).alloc (Nat.le_refl _) _⟩⟩
    simp only [go_sem, World.size_alloc]
    exact rep4 _ j hj
  case round =>
    obtain ⟨k, hk, rfl, hS⟩ := hrel
    by_cases hlt : k < 4
    · obtain ⟨v0, t0⟩ := hS.old k (by omega)
      have f0 := hS.fz k
      go_wp2
      refine ⟨⟨k + 1, by omega, by go_num, hS.put hlt _ ?_⟩, by simp [intOf]; omega⟩
      rw [cast_div_pow4]
      unfold byte4
      rw [byteU_toNat]
      exact (Int.natCast_emod _ _).symm
    · obtain rfl : k = 4 := by omega
      have htx := hS.text
      have hsl := run_slice4 w.heap.size
      go_wp2
      go_ret
      exact ⟨rfl, hS.below⟩

/-- The number whose k lowest bytes are a text's first. -/
def valB (s : ByteArray) : Nat → Nat
  | 0 => 0
  | k + 1 => valB s k + ((bytesC s).getD k 0) * 2 ^ (8 * k)
theorem getD_lt (s : ByteArray) (k : Nat) : (bytesC s).getD k 0 < 256 := by
  rw [List.getD_eq_getElem?_getD]
  by_cases h : k < (bytesC s).length
  · rw [List.getElem?_eq_getElem h]; exact bytesC_lt s _ (List.getElem_mem h)
  · rw [List.getElem?_eq_none (by omega)]; decide
theorem valB_lt (s : ByteArray) : ∀ k, valB s k < 2 ^ (8 * k)
  | 0 => by simp [valB]
  | k + 1 => by
    have h1 := valB_lt s k
    have h2 := getD_lt s k
    have h3 : ((bytesC s).getD k 0 + 1) * 2 ^ (8 * k) ≤ 256 * 2 ^ (8 * k) := Nat.mul_le_mul_right _ (by omega)
    rw [Nat.add_mul] at h3
    rw [show 8 * (k + 1) = 8 * k + 8 by omega, Nat.pow_add]
    simp only [valB]
    omega
theorem valB_four (s : ByteArray) (h : 4 ≤ s.size) : valB s 4 = fromN s := by
  unfold fromN
  rw [if_pos h]
  have hl := bytesC_length s
  have hb := bytesC_lt s
  simp only [valB]
  match hq : bytesC s with
  | [] => exfalso; rw [hq] at hl; simp at hl; omega
  | [_] => exfalso; rw [hq] at hl; simp at hl; omega
  | [_, _] => exfalso; rw [hq] at hl; simp at hl; omega
  | [_, _, _] => exfalso; rw [hq] at hl; simp at hl; omega
  | a :: b :: c :: d :: r =>
    rw [hq] at hb
    simp only [List.getD_cons_zero, List.getD_cons_succ]
    rw [wordN_eq (hb a (by simp)) (hb b (by simp)) (hb c (by simp))]
    omega
theorem or4_step (v x k : Nat) (hv : v < 2 ^ (8 * k)) (hx : x < 256) (hk : k < 4) : bits .or .u32 ((v : Nat) : Int) (((x : Nat) : Int) * 2 ^ (8 * k) % 4294967296) = ((v + x * 2 ^ (8 * k) : Nat) : Int) := by
  have h1 : 2 ^ (8 * k) ≤ 16777216 := show 2 ^ (8 * k) ≤ 2 ^ 24 from Nat.pow_le_pow_right (by omega) (by omega)
  have h3 : x * 2 ^ (8 * k) ≤ 255 * 2 ^ (8 * k) := Nat.mul_le_mul_right _ (by omega)
  have h4 : x * 2 ^ (8 * k) < 4294967296 := by omega
  have h5 : v < 4294967296 := by omega
  have e1 : ((x : Nat) : Int) * 2 ^ (8 * k) % 4294967296 = ((x * 2 ^ (8 * k) : Nat) : Int) := by
    rw [show ((x : Nat) : Int) * 2 ^ (8 * k) = ((x * 2 ^ (8 * k) : Nat) : Int) by rw [Int.natCast_mul, Int.natCast_pow]; rfl]
    generalize x * 2 ^ (8 * k) = z at *
    omega
  rw [e1, u32_or_nat _ _ h5 h4, Nat.or_comm, Nat.mul_comm, ← Nat.two_pow_add_eq_or_of_lt hv, Nat.add_comm]

set_option maxRecDepth 100000 in
set_option maxHeartbeats 1000000 in
theorem frombytes4_any (s : ByteArray) (hs : s.size ≤ maxLen) (w : World) :
    Calls Try.prog 10 #[.string s] w fun e w' => e = .returned (.tuple #[.int .u32 ((fromN s : Nat) : Int), .bool (decide (4 ≤ s.size))]) ∧ w = w' := by
  unfold maxLen at hs
  by_cases h4 : 4 ≤ s.size
  · have hd := Lib.hid (decide_eq_true h4)
    have hv := Lib.hid (valB_four s h4)
    go_enter Try.func10, Try.ntmps10
    go_wp2
    go_loopw [4, 9] (fun c i wr => ∃ k : Nat, k ≤ 4 ∧ i = .int .i64 k ∧ c = .int .u32 ((valB s k : Nat) : Int) ∧ w = wr) (fun _ i _ => (4 - intOf i).toNat)
    case atStart => exact ⟨0, by omega, rfl, rfl, rfl⟩
    case round =>
      obtain ⟨k, hk, rfl, rfl, rfl⟩ := hrel
      by_cases hlt : k < 4
      · have hks : k < s.size := by omega
        have hby : s[k].toNat < 256 := UInt8.toNat_lt _
        have hg : (bytesC s).getD k 0 = s[k].toNat := by
          rw [List.getD_eq_getElem?_getD, List.getElem?_eq_getElem (by rw [bytesC_length]; exact hks)]
          exact bytesC_get s k hks
        have e0 := Lib.hid (or4_step (valB s k) s[k].toNat k (valB_lt s k) hby hlt)
        have e1 := Lib.hid (show valB s (k + 1) = valB s k + s[k].toNat * 2 ^ (8 * k) by rw [← hg]; rfl)
        clear hg
        go_wp2
        refine ⟨⟨k + 1, by omega, by go_num, ?_, trivial⟩, by simp [intOf]; omega⟩
        rw [e1.out, ← e0.out]
      · obtain rfl : k = 4 := by omega
        go_wp2
        go_ret2
        exact ⟨by rw [← hv.out, hd.out]; rfl, rfl⟩
  · have hd := Lib.hid (decide_eq_false h4)
    have hv := Lib.hid (show fromN s = 0 from if_neg h4)
    go_enter Try.func10, Try.ntmps10
    go_wp2
    go_ret2
    exact ⟨by rw [hv.out, hd.out]; rfl, rfl⟩
end Go.Proofs.Ytbjhkggdklnkjaa
