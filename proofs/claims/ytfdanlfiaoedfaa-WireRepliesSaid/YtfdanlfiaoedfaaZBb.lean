/- Bytes: sixteen, the lowest first. -/
/- The document's own bytes: bit by bit. -/
import Derived.Test.YtfdanlfiaoedfaaZEq
namespace Go.Proofs.Ytfdanlfiaoedfaa
open Go.RowKit Go.Sort Wm

/-- Byte j of a number. -/
def byteN (n j : Nat) : UInt8 := UInt8.ofNat (n / 2 ^ (8 * j) % 256)
def bytesL (n : Nat) : List UInt8 := (List.range 16).map (byteN n)
theorem byteN_toNat (n j : Nat) : (byteN n j).toNat = n / 2 ^ (8 * j) % 256 := by
  unfold byteN; rw [UInt8.toNat_ofNat']; omega
theorem byteN_lo (n j : Nat) (h : j < 8) : loN n / 2 ^ (8 * j) % 256 = (byteN n j).toNat := by
  rw [byteN_toNat]
  have e : 18446744073709551616 = 2 ^ (8 * j) * (2 ^ (56 - 8 * j) * 256) := by
    have e2 : (2 : Nat) ^ 64 = 2 ^ (8 * j) * (2 ^ (56 - 8 * j) * 2 ^ 8) := by
      rw [← Nat.pow_add, ← Nat.pow_add]; congr 1; omega
    simpa using e2
  have hp : 0 < 2 ^ (8 * j) := Nat.two_pow_pos _
  have hn : n = loN n + 2 ^ (8 * j) * (2 ^ (56 - 8 * j) * 256 * hiN n) := by
    have h1 : n = loN n + 18446744073709551616 * hiN n := by unfold loN hiN; omega
    rw [← Nat.mul_assoc, ← e]; exact h1
  conv => rhs; rw [hn, Nat.add_mul_div_left _ _ hp]
  have : 2 ^ (56 - 8 * j) * 256 * hiN n = 256 * (2 ^ (56 - 8 * j) * hiN n) := by
    rw [Nat.mul_comm (2 ^ (56 - 8 * j)) 256, Nat.mul_assoc]
  rw [this]; omega
theorem byteN_hi (n j : Nat) : hiN n / 2 ^ (8 * j) % 256 = (byteN n (8 + j)).toNat := by
  rw [byteN_toNat]
  unfold hiN
  rw [Nat.div_div_eq_div_mul, show 8 * (8 + j) = 64 + 8 * j by omega, Nat.pow_add]

/-- What lies in memory while the bytes are laid. -/
structure By (w wr : World) (n k : Nat) : Prop where
  b0 : wr.cell? ⟨w.heap.size, 0, none⟩ = some (.int .u64 ((hiN n : Nat) : Int))
  b1 : wr.cell? ⟨w.heap.size, 1, none⟩ = some (.int .u64 ((loN n : Nat) : Int))
  old : ∀ j, j < 16 → ∃ v, wr.cell? ⟨w.heap.size + 1, j, none⟩ = some v
  fz : ∀ j, wr.frozen? ⟨w.heap.size + 1, j, none⟩ = false
  lo : ∀ j, j < k → wr.cell? ⟨w.heap.size + 1, j, none⟩ = some (.int .u8 (((byteN n j).toNat : Nat) : Int))
  hi : ∀ j, j < k → wr.cell? ⟨w.heap.size + 1, 8 + j, none⟩ = some (.int .u8 (((byteN n (8 + j)).toNat : Nat) : Int))
  below : Below w.heap.size w wr
theorem cell_set2_far {W : World} {b p q c j : Nat} {x y : Value} (h : c ≠ b ∨ (j ≠ p ∧ j ≠ q)) : ((W.setCell ⟨b, p, none⟩ x).setCell ⟨b, q, none⟩ y).cell? ⟨c, j, none⟩ = W.cell? ⟨c, j, none⟩ := by
  rw [World.cell?_setCell_other, World.cell?_setCell_other]
  all_goals (intro e; injection e with e1 e2 _; omega)
theorem cell_set2_0 {W : World} {b p q : Nat} {x y u : Value} (h : W.cell? ⟨b, p, none⟩ = some u) (hpq : p ≠ q) : ((W.setCell ⟨b, p, none⟩ x).setCell ⟨b, q, none⟩ y).cell? ⟨b, p, none⟩ = some x := by
  rw [World.cell?_setCell_other]
  · exact World.cell?_setCell_same _ _ _ h
  · intro e; injection e with e1 e2 _; omega
theorem cell_set2_1 {W : World} {b p q : Nat} {x y u : Value} (h : W.cell? ⟨b, q, none⟩ = some u) (hpq : p ≠ q) : ((W.setCell ⟨b, p, none⟩ x).setCell ⟨b, q, none⟩ y).cell? ⟨b, q, none⟩ = some y := by
  refine World.cell?_setCell_same (u := u) _ _ _ ?_
  rw [World.cell?_setCell_other]
  · exact h
  · intro e; injection e with e1 e2 _; omega
theorem By.put {w wr : World} {n k : Nat} (h : By w wr n k) (hk : k < 8) (x y : Int) (hx : x = (((byteN n k).toNat : Nat) : Int)) (hy : y = (((byteN n (8 + k)).toNat : Nat) : Int)) :
    By w ((wr.setCell ⟨w.heap.size + 1, k, none⟩ (.int .u8 x)).setCell ⟨w.heap.size + 1, 8 + k, none⟩ (.int .u8 y)) n (k + 1) := by
  obtain ⟨u, hu⟩ := h.old k (by omega)
  obtain ⟨v, hv⟩ := h.old (8 + k) (by omega)
  refine ⟨by rw [cell_set2_far (by omega)]; exact h.b0, by rw [cell_set2_far (by omega)]; exact h.b1, fun j hj => ?_, fun j => by simpa using h.fz j, fun j hj => ?_, fun j hj => ?_, (h.below.setCell (by show _ ≤ w.heap.size + 1; omega) _).setCell (by show _ ≤ w.heap.size + 1; omega) _⟩
  · by_cases e : j = k
    · subst e; exact ⟨_, cell_set2_0 hu (by omega)⟩
    · by_cases e2 : j = 8 + k
      · subst e2; exact ⟨_, cell_set2_1 hv (by omega)⟩
      · rw [cell_set2_far (by omega)]; exact h.old j hj
  · by_cases e : j = k
    · subst e; rw [cell_set2_0 hu (by omega), hx]
    · rw [cell_set2_far (by omega)]; exact h.lo j (by omega)
  · by_cases e : j = k
    · subst e; rw [cell_set2_1 hv (by omega), hy]
    · rw [cell_set2_far (by omega)]; exact h.hi j (by omega)
theorem By.all {w wr : World} {n : Nat} (h : By w wr n 8) (j : Nat) (hj : j < 16) : wr.cell? ⟨w.heap.size + 1, j, none⟩ = some (.int .u8 (((byteN n j).toNat : Nat) : Int)) := by
  by_cases e : j < 8
  · exact h.lo j e
  · have := h.hi (j - 8) (by omega)
    rw [show 8 + (j - 8) = j by omega] at this
    exact this
theorem rep16 (v : Value) (j : Nat) (hj : j < 16) : (#[v, v, v, v, v, v, v, v, v, v, v, v, v, v, v, v] : Array Value)[j]? = some v := by
  have e : (#[v, v, v, v, v, v, v, v, v, v, v, v, v, v, v, v] : Array Value) = (List.replicate 16 v).toArray := rfl
  rw [e, List.getElem?_toArray, List.getElem?_replicate, if_pos hj]
theorem bytesL_length (n : Nat) : (bytesL n).length = 16 := by simp [bytesL]
theorem By.text {w wr : World} {n : Nat} (h : By w wr n 8) :
    (convert 55 9 (.slice (some ⟨w.heap.size + 1, 0, none⟩) 16 16)).run Try.prog wr = .ok (.string ⟨(bytesL n).toArray⟩) wr := by
  have := run_convert_bytes_back (P := Try.prog) wr 55 9 5 ⟨w.heap.size + 1, 0, none⟩ 16 (bytesL n) Try.underlying55 Try.underlying5 Try.underlying9 (fun j hj => by
    have hj2 : j < 16 := by rw [bytesL_length] at hj; exact hj
    have := h.all j hj2
    have e : (bytesL n)[j]'hj = byteN n j := by simp [bytesL]
    rw [e]
    simp only [Addr.add]
    split
    · rename_i h0; subst h0; simpa using this
    · simpa using this)
  rw [bytesL_length] at this
  exact this
theorem run_slice16 (s : Nat) (W : World) :
    (Instr.sliceAt 121 (.pointer (some ⟨s, 0, none⟩)) none none none).run Try.prog W = .ok (.slice (some ⟨s, 0, none⟩) 16 16) W := by
  have h16 : Try.prog.arrayLen 121 = 16 := by kernel_rfl
  rw [run_sliceAt_array_all (P := Try.prog) W 121 ⟨s, 0, none⟩ (by kernel_rfl), h16]
  have hs : ∀ W, (sizeOf (Try.prog.elem 121)).run Try.prog W = .ok 1 W := fun W => by kernel_rfl
  rw [hs]
  simp [Result.andThen, slicedAt, Addr.add]

set_option maxRecDepth 100000 in
set_option maxHeartbeats 1000000 in
theorem bytes_any (n : Nat) (w : World) :
    Calls Try.prog 77 #[numV n] w fun e w' => e = .returned (.string ⟨(bytesL n).toArray⟩) ∧ Below w.heap.size w w' := by
  go_enter Try.func77, Try.ntmps77
  go_wp2
  go_loopw [5] (fun i wr => ∃ k : Nat, k ≤ 8 ∧ i = .int .i64 k ∧ By w wr n k) (fun i _ => (8 - RowKit.intOf i).toNat)
  case atStart =>
    have hbl : ∀ A B : Obj, Below w.heap.size w ((w.alloc A).alloc B) := fun A B => ((Below.refl _ _).alloc (Nat.le_refl _) _).alloc (by simp) _
    refine ⟨0, by omega, rfl, ⟨by simp [go_sem], by simp [go_sem], fun j hj => ⟨.int .u8 0, ?_⟩, fun j => by simp [go_sem], fun j hj => by omega, fun j hj => by omega, hbl _ _⟩⟩
    simp only [go_sem, World.size_alloc]
    exact rep16 _ j hj
  case round =>
    obtain ⟨k, hk, rfl, hS⟩ := hrel
    have b0 := hS.b0
    have b1 := hS.b1
    by_cases hlt : k < 8
    · obtain ⟨v0, t0⟩ := hS.old k (by omega)
      obtain ⟨v1, t1⟩ := hS.old (8 + k) (by omega)
      have f0 := hS.fz k
      have f1 := hS.fz (8 + k)
      go_wp2
      refine ⟨⟨k + 1, by omega, by go_num, hS.put hlt _ _ ?_ ?_⟩, by simp [RowKit.intOf]; omega⟩
      · rw [← byteN_lo n k hlt, cast_div_pow]; omega
      · rw [← byteN_hi n k, cast_div_pow]; omega
    · obtain rfl : k = 8 := by omega
      have htx := hS.text
      have hsl := run_slice16 (w.heap.size + 1)
      go_wp2
      go_ret
      exact ⟨rfl, hS.below⟩
end Go.Proofs.Ytfdanlfiaoedfaa
namespace Go.Proofs.Ytfdanlfiaoedfaa
open Go.RowKit Go.Sort Wm

def bytesP (n j : Nat) : List UInt8 := (List.range j).map (byteN n)
theorem bytesP_length (n j : Nat) : (bytesP n j).length = j := by simp [bytesP]
theorem bytesP_succ (n j : Nat) : bytesP n (j + 1) = bytesP n j ++ [byteN n j] := by simp [bytesP, List.range_succ]
def textP (n j : Nat) : ByteArray := ⟨(bytesP n j).toArray⟩
theorem textP_size (n j : Nat) : (textP n j).size = j := by
  show (bytesP n j).toArray.size = j
  simp [bytesP_length]
def byteT (x : UInt8) : ByteArray := ⟨#[x]⟩
theorem byteT_size (x : UInt8) : (byteT x).size = 1 := rfl
theorem textP_succ (n j : Nat) : textP n j ++ byteT (byteN n j) = textP n (j + 1) := by
  apply ByteArray.ext
  rw [ByteArray.data_append]
  show (bytesP n j).toArray ++ #[byteN n j] = (bytesP n (j + 1)).toArray
  rw [bytesP_succ]; simp
/-- The bits of byte j that have been gathered, from the highest on: m are left. -/
def partB (n j m : Nat) : Nat := n / 2 ^ (8 * j + m) % 2 ^ (8 - m)
theorem partB_start (n j : Nat) : partB n j 8 = 0 := by unfold partB; simp; omega
theorem partB_end (n j : Nat) : partB n j 0 = (byteN n j).toNat := by rw [byteN_toNat]; rfl
theorem partB_lt (n j m : Nat) (_h : m ≤ 8) : partB n j m < 256 := by
  unfold partB
  have h1 := Nat.mod_lt (n / 2 ^ (8 * j + m)) (Nat.two_pow_pos (8 - m))
  have h2 : 2 ^ (8 - m) ≤ 2 ^ 8 := Nat.pow_le_pow_right (by omega) (by omega)
  omega
theorem partB_step (n j p : Nat) (h : p < 8) : 2 * partB n j (p + 1) + bitN n (8 * j + p) = partB n j p := by
  unfold partB bitN
  rw [show 8 * j + (p + 1) = 8 * j + p + 1 by omega, Nat.pow_succ, ← Nat.div_div_eq_div_mul]
  generalize n / 2 ^ (8 * j + p) = X
  rw [show 8 - p = (8 - (p + 1)) + 1 by omega, Nat.pow_succ, Nat.mul_comm (2 ^ (8 - (p + 1))) 2, Nat.mod_mul]
  omega
theorem conv1 (x : UInt8) (W : World) :
    (convert 55 9 (.slice (some ⟨W.heap.size, 0, none⟩) 1 1)).run Try.prog (W.alloc (.cells #[.int .u8 ((x.toNat : Nat) : Int)] 5)) = .ok (.string (byteT x)) (W.alloc (.cells #[.int .u8 ((x.toNat : Nat) : Int)] 5)) :=
  run_convert_bytes_back (P := Try.prog) _ 55 9 5 ⟨W.heap.size, 0, none⟩ 1 [x] Try.underlying55 Try.underlying5 Try.underlying9 (fun j hj => by
    obtain rfl : j = 0 := by simpa using hj
    simp [Addr.add, go_sem])

set_option maxRecDepth 100000 in
set_option maxHeartbeats 1000000 in
theorem refbytes_any (n : Nat) (w : World) :
    Calls Try.prog 40 #[numV n] w fun e w' => e = .returned (.string ⟨(bytesL n).toArray⟩) ∧ Below w.heap.size w w' := by
  go_enter Try.func40, Try.ntmps40
  go_wp2
  go_loopw [3, 4] (fun s i wr => ∃ j : Nat, j ≤ 16 ∧ i = .int .i64 j ∧ s = .string (textP n j) ∧ Has wr [(w.heap.size, 0, .int .u64 ((hiN n : Nat) : Int)), (w.heap.size, 1, .int .u64 ((loN n : Nat) : Int))] ∧ Below w.heap.size w wr) (fun _ i _ => (16 - RowKit.intOf i).toNat)
  case atStart =>
    exact ⟨0, by omega, rfl, rfl, (show Has w [] from trivial).new2 _ _ _, (Below.refl _ _).alloc (Nat.le_refl _) _⟩
  case round =>
    obtain ⟨j, hj, rfl, rfl, hH, hb1⟩ := hrel
    by_cases hlt : j < 16
    · have hj2 : ((j : Nat) : Int) < 16 := by omega
      obtain ⟨⟨p0, q0⟩, ⟨p1, q1⟩, -⟩ := id hH
      try dsimp only at p0 q0 p1 q1
      go_wp2
      go_loopw [5, 6] (fun v i wi => ∃ m : Nat, m ≤ 8 ∧ i = .int .i64 ((m : Int) - 1) ∧ v = .int .i64 ((partB n j m : Nat) : Int) ∧ Has wi [(w.heap.size, 0, .int .u64 ((hiN n : Nat) : Int)), (w.heap.size, 1, .int .u64 ((loN n : Nat) : Int))] ∧ Below w.heap.size w wi) (fun _ i _ => (RowKit.intOf i + 1).toNat)
      case atStart => exact ⟨8, by omega, rfl, by rw [partB_start]; rfl, hH, hb1⟩
      case round =>
        clear hH hb1 p0 q0 p1 q1
        obtain ⟨m, hm, rfl, rfl, hH, hb1⟩ := hrel
        obtain ⟨⟨p0, q0⟩, ⟨p1, q1⟩, -⟩ := id hH
        try dsimp only at p0 q0 p1 q1
        by_cases hm0 : m = 0
        · subst hm0
          rw [partB_end n j]
          have hts := textP_succ n j
          have hsz := textP_size n j
          have hbs := byteT_size (byteN n j)
          have hx := UInt8.toNat_lt (byteN n j)
          have hcv := conv1 (byteN n j)
          generalize byteN n j = x at *
          replace hts := Lib.hid hts
          generalize textP n j = tx at *
          go_wp2
          exact ⟨⟨j + 1, by omega, by go_num, by rw [hts.out], hH.alloc _, hb1.alloc hb1.size _⟩, by simp [RowKit.intOf]; omega⟩
        · obtain ⟨p, rfl⟩ : ∃ p, m = p + 1 := ⟨m - 1, by omega⟩
          rw [show (((p + 1 : Nat) : Int) - 1) = (p : Int) by omega]
          have hlt1 := partB_lt n j (p + 1) hm
          have hbit := Lib.hid (fun w => bit_any n (8 * j + p) (by omega) w)
          have hlt2 := bitN_lt n (8 * j + p)
          have hst := Lib.hid (partB_step n j p (by omega))
          go_wp2_with fail
          rw [show (8 * (j : Int) + (p : Int)) = ((8 * j + p : Nat) : Int) by omega]
          refine (hbit.out _).mono ?_
          rintro e w2 ⟨rfl, hw2⟩
          replace hH := hH.later hw2
          replace hb1 := hb1.trans (hw2.mono hb1.size)
          clear hw2
          go_wp2
          exact ⟨⟨p, by omega, rfl, intV (by have := hst.out; omega), hH, hb1⟩, by simp [RowKit.intOf]⟩
    · obtain rfl : j = 16 := by omega
      go_wp2
      go_ret
      exact ⟨rfl, hb1⟩
end Go.Proofs.Ytfdanlfiaoedfaa
