/- Bytes: sixteen, the lowest first. -/
import Derived.Test.YtdphflbgecnhkaaDoorZWd
namespace Go.Proofs.YtdphflbgecnhkaaDoor
open Go.RowKit Go.Sort Wm

/-- Byte j of a number. -/
def byteN (n j : Nat) : UInt8 := UInt8.ofNat (n / 2 ^ (8 * j) % 256)
def bytesL (n : Nat) : List UInt8 := (List.range 16).map (byteN n)
theorem byteN_toNat (n j : Nat) : (byteN n j).toNat = n / 2 ^ (8 * j) % 256 := by
  unfold byteN; rw [UInt8.toNat_ofNat']; omega
theorem byteN_lo (n j : Nat) (h : j < 8) : loN n / 2 ^ (8 * j) % 256 = (byteN n j).toNat := by
  rw [byteN_toNat]
  have e : 18446744073709551616 = 2 ^ (8 * j) * (2 ^ (56 - 8 * j) * 256) := by
    have e2 : (2 : Nat) ^ 64 = 2 ^ (8 * j) * (2 ^ (56 - 8 * j) * 2 ^ 8) := by
      rw [← Nat.pow_add, ← Nat.pow_add]; congr 1; omega
    simpa using e2
  have hp : 0 < 2 ^ (8 * j) := Nat.two_pow_pos _
  have hn : n = loN n + 2 ^ (8 * j) * (2 ^ (56 - 8 * j) * 256 * hiN n) := by
    have h1 : n = loN n + 18446744073709551616 * hiN n := by unfold loN hiN; omega
    rw [← Nat.mul_assoc, ← e]; exact h1
  conv => rhs; rw [hn, Nat.add_mul_div_left _ _ hp]
  have : 2 ^ (56 - 8 * j) * 256 * hiN n = 256 * (2 ^ (56 - 8 * j) * hiN n) := by
    rw [Nat.mul_comm (2 ^ (56 - 8 * j)) 256, Nat.mul_assoc]
  rw [this]; omega
theorem byteN_hi (n j : Nat) : hiN n / 2 ^ (8 * j) % 256 = (byteN n (8 + j)).toNat := by
  rw [byteN_toNat]
  unfold hiN
  rw [Nat.div_div_eq_div_mul, show 8 * (8 + j) = 64 + 8 * j by omega, Nat.pow_add]

/-- What lies in memory while the bytes are laid. -/
structure By (w wr : World) (n k : Nat) : Prop where
  b0 : wr.cell? ⟨w.heap.size, 0, none⟩ = some (.int .u64 ((hiN n : Nat) : Int))
  b1 : wr.cell? ⟨w.heap.size, 1, none⟩ = some (.int .u64 ((loN n : Nat) : Int))
  old : ∀ j, j < 16 → ∃ v, wr.cell? ⟨w.heap.size + 1, j, none⟩ = some v
  fz : ∀ j, wr.frozen? ⟨w.heap.size + 1, j, none⟩ = false
  lo : ∀ j, j < k → wr.cell? ⟨w.heap.size + 1, j, none⟩ = some (.int .u8 (((byteN n j).toNat : Nat) : Int))
  hi : ∀ j, j < k → wr.cell? ⟨w.heap.size + 1, 8 + j, none⟩ = some (.int .u8 (((byteN n (8 + j)).toNat : Nat) : Int))
  below : Below w.heap.size w wr
theorem cell_set2_far {W : World} {b p q c j : Nat} {x y : Value} (h : c ≠ b ∨ (j ≠ p ∧ j ≠ q)) : ((W.setCell ⟨b, p, none⟩ x).setCell ⟨b, q, none⟩ y).cell? ⟨c, j, none⟩ = W.cell? ⟨c, j, none⟩ := by
  rw [World.cell?_setCell_other, World.cell?_setCell_other]
  all_goals (intro e; injection e with e1 e2 _; omega)
theorem cell_set2_0 {W : World} {b p q : Nat} {x y u : Value} (h : W.cell? ⟨b, p, none⟩ = some u) (hpq : p ≠ q) : ((W.setCell ⟨b, p, none⟩ x).setCell ⟨b, q, none⟩ y).cell? ⟨b, p, none⟩ = some x := by
  rw [World.cell?_setCell_other]
  · exact World.cell?_setCell_same _ _ _ h
  · intro e; injection e with e1 e2 _; omega
theorem cell_set2_1 {W : World} {b p q : Nat} {x y u : Value} (h : W.cell? ⟨b, q, none⟩ = some u) (hpq : p ≠ q) : ((W.setCell ⟨b, p, none⟩ x).setCell ⟨b, q, none⟩ y).cell? ⟨b, q, none⟩ = some y := by
  refine World.cell?_setCell_same (u := u) _ _ _ ?_
  rw [World.cell?_setCell_other]
  · exact h
  · intro e; injection e with e1 e2 _; omega
theorem By.put {w wr : World} {n k : Nat} (h : By w wr n k) (hk : k < 8) (x y : Int) (hx : x = (((byteN n k).toNat : Nat) : Int)) (hy : y = (((byteN n (8 + k)).toNat : Nat) : Int)) :
    By w ((wr.setCell ⟨w.heap.size + 1, k, none⟩ (.int .u8 x)).setCell ⟨w.heap.size + 1, 8 + k, none⟩ (.int .u8 y)) n (k + 1) := by
  obtain ⟨u, hu⟩ := h.old k (by omega)
  obtain ⟨v, hv⟩ := h.old (8 + k) (by omega)
  refine ⟨by rw [cell_set2_far (by omega)]; exact h.b0, by rw [cell_set2_far (by omega)]; exact h.b1, fun j hj => ?_, fun j => by simpa using h.fz j, fun j hj => ?_, fun j hj => ?_, (h.below.setCell (by show _ ≤ w.heap.size + 1; omega) _).setCell (by show _ ≤ w.heap.size + 1; omega) _⟩
  · by_cases e : j = k
    · subst e; exact ⟨_, cell_set2_0 hu (by omega)⟩
    · by_cases e2 : j = 8 + k
      · subst e2; exact ⟨_, cell_set2_1 hv (by omega)⟩
      · rw [cell_set2_far (by omega)]; exact h.old j hj
  · by_cases e : j = k
    · subst e; rw [cell_set2_0 hu (by omega), hx]
    · rw [cell_set2_far (by omega)]; exact h.lo j (by omega)
  · by_cases e : j = k
    · subst e; rw [cell_set2_1 hv (by omega), hy]
    · rw [cell_set2_far (by omega)]; exact h.hi j (by omega)
theorem By.all {w wr : World} {n : Nat} (h : By w wr n 8) (j : Nat) (hj : j < 16) : wr.cell? ⟨w.heap.size + 1, j, none⟩ = some (.int .u8 (((byteN n j).toNat : Nat) : Int)) := by
  by_cases e : j < 8
  · exact h.lo j e
  · have := h.hi (j - 8) (by omega)
    rw [show 8 + (j - 8) = j by omega] at this
    exact this
theorem rep16 (v : Value) (j : Nat) (hj : j < 16) : (#[v, v, v, v, v, v, v, v, v, v, v, v, v, v, v, v] : Array Value)[j]? = some v := by
  have e : (#[v, v, v, v, v, v, v, v, v, v, v, v, v, v, v, v] : Array Value) = (List.replicate 16 v).toArray := rfl
  rw [e, List.getElem?_toArray, List.getElem?_replicate, if_pos hj]
theorem bytesL_length (n : Nat) : (bytesL n).length = 16 := by simp [bytesL]
theorem By.text {w wr : World} {n : Nat} (h : By w wr n 8) :
    (convert 40 9 (.slice (some ⟨w.heap.size + 1, 0, none⟩) 16 16)).run Tryd.prog wr = .ok (.string ⟨(bytesL n).toArray⟩) wr := by
  have := run_convert_bytes_back (P := Tryd.prog) wr 40 9 5 ⟨w.heap.size + 1, 0, none⟩ 16 (bytesL n) Tryd.underlying40 Tryd.underlying5 Tryd.underlying9 (fun j hj => by
    have hj2 : j < 16 := by rw [bytesL_length] at hj; exact hj
    have := h.all j hj2
    have e : (bytesL n)[j]'hj = byteN n j := by simp [bytesL]
    rw [e]
    simp only [Addr.add]
    split
    · rename_i h0; subst h0; simpa using this
    · simpa using this)
  rw [bytesL_length] at this
  exact this
theorem run_slice16 (s : Nat) (W : World) :
    (Instr.sliceAt 39 (.pointer (some ⟨s, 0, none⟩)) none none none).run Tryd.prog W = .ok (.slice (some ⟨s, 0, none⟩) 16 16) W := by
  have h16 : Tryd.prog.arrayLen 39 = 16 := by kernel_rfl
  rw [run_sliceAt_array_all (P := Tryd.prog) W 39 ⟨s, 0, none⟩ (by kernel_rfl), h16]
  have hs : ∀ W, (sizeOf (Tryd.prog.elem 39)).run Tryd.prog W = .ok 1 W := fun W => by kernel_rfl
  rw [hs]
  simp [Result.andThen, slicedAt, Addr.add]

set_option maxRecDepth 100000 in
set_option maxHeartbeats 1000000 in
theorem bytes_any (n : Nat) (w : World) :
    Calls Tryd.prog 17 #[numV n] w fun e w' => e = .returned (.string ⟨(bytesL n).toArray⟩) ∧ Below w.heap.size w w' := by
  go_enter Tryd.func17, Tryd.ntmps17
  go_wp2
  go_loopw [5] (fun i wr => ∃ k : Nat, k ≤ 8 ∧ i = .int .i64 k ∧ By w wr n k) (fun i _ => (8 - RowKit.intOf i).toNat)
  case atStart =>
    have hbl : ∀ A B : Obj, Below w.heap.size w ((w.alloc A).alloc B) := fun A B => ((Below.refl _ _).alloc (Nat.le_refl _) _).alloc (by simp) _
    refine ⟨0, by omega, rfl, ⟨by simp [go_sem], by simp [go_sem], fun j hj => ⟨.int .u8 0, ?_⟩, fun j => by simp [go_sem], fun j hj => by omega, fun j hj => by omega, hbl _ _⟩⟩
    simp only [go_sem, World.size_alloc]
    exact rep16 _ j hj
  case round =>
    obtain ⟨k, hk, rfl, hS⟩ := hrel
    have b0 := hS.b0
    have b1 := hS.b1
    by_cases hlt : k < 8
    · obtain ⟨v0, t0⟩ := hS.old k (by omega)
      obtain ⟨v1, t1⟩ := hS.old (8 + k) (by omega)
      have f0 := hS.fz k
      have f1 := hS.fz (8 + k)
      go_wp2
      refine ⟨⟨k + 1, by omega, by go_num, hS.put hlt _ _ ?_ ?_⟩, by simp [RowKit.intOf]; omega⟩
      · rw [← byteN_lo n k hlt, cast_div_pow]; omega
      · rw [← byteN_hi n k, cast_div_pow]; omega
    · obtain rfl : k = 8 := by omega
      have htx := hS.text
      have hsl := run_slice16 (w.heap.size + 1)
      go_wp2
      go_ret
      exact ⟨rfl, hS.below⟩
end Go.Proofs.YtdphflbgecnhkaaDoor
