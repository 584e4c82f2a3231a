/- The document's own bytes: bit by bit. -/
import Derived.Test.YtdphflbgecnhkaaDoorZBa
import Derived.Test.YtdphflbgecnhkaaDoorZHas
namespace Go.Proofs.YtdphflbgecnhkaaDoor
open Go.RowKit Go.Sort Wm

def bytesP (n j : Nat) : List UInt8 := (List.range j).map (byteN n)
theorem bytesP_length (n j : Nat) : (bytesP n j).length = j := by simp [bytesP]
theorem bytesP_succ (n j : Nat) : bytesP n (j + 1) = bytesP n j ++ [byteN n j] := by simp [bytesP, List.range_succ]
def textP (n j : Nat) : ByteArray := ⟨(bytesP n j).toArray⟩
theorem textP_size (n j : Nat) : (textP n j).size = j := by
  show (bytesP n j).toArray.size = j
  simp [bytesP_length]
def byteT (x : UInt8) : ByteArray := ⟨#[x]⟩
theorem byteT_size (x : UInt8) : (byteT x).size = 1 := rfl
theorem textP_succ (n j : Nat) : textP n j ++ byteT (byteN n j) = textP n (j + 1) := by
  apply ByteArray.ext
  rw [ByteArray.data_append]
  show (bytesP n j).toArray ++ #[byteN n j] = (bytesP n (j + 1)).toArray
  rw [bytesP_succ]; simp
/-- The bits of byte j that have been gathered, from the highest on: m are left. -/
def partB (n j m : Nat) : Nat := n / 2 ^ (8 * j + m) % 2 ^ (8 - m)
theorem partB_start (n j : Nat) : partB n j 8 = 0 := by unfold partB; simp; omega
theorem partB_end (n j : Nat) : partB n j 0 = (byteN n j).toNat := by rw [byteN_toNat]; rfl
theorem partB_lt (n j m : Nat) (_h : m ≤ 8) : partB n j m < 256 := by
  unfold partB
  have h1 := Nat.mod_lt (n / 2 ^ (8 * j + m)) (Nat.two_pow_pos (8 - m))
  have h2 : 2 ^ (8 - m) ≤ 2 ^ 8 := Nat.pow_le_pow_right (by omega) (by omega)
  omega
theorem partB_step (n j p : Nat) (h : p < 8) : 2 * partB n j (p + 1) + bitN n (8 * j + p) = partB n j p := by
  unfold partB bitN
  rw [show 8 * j + (p + 1) = 8 * j + p + 1 by omega, Nat.pow_succ, ← Nat.div_div_eq_div_mul]
  generalize n / 2 ^ (8 * j + p) = X
  rw [show 8 - p = (8 - (p + 1)) + 1 by omega, Nat.pow_succ, Nat.mul_comm (2 ^ (8 - (p + 1))) 2, Nat.mod_mul]
  omega
theorem conv1 (x : UInt8) (W : World) :
    (convert 40 9 (.slice (some ⟨W.heap.size, 0, none⟩) 1 1)).run Tryd.prog (W.alloc (.cells #[.int .u8 ((x.toNat : Nat) : Int)] 5)) = .ok (.string (byteT x)) (W.alloc (.cells #[.int .u8 ((x.toNat : Nat) : Int)] 5)) :=
  run_convert_bytes_back (P := Tryd.prog) _ 40 9 5 ⟨W.heap.size, 0, none⟩ 1 [x] Tryd.underlying40 Tryd.underlying5 Tryd.underlying9 (fun j hj => by
    obtain rfl : j = 0 := by simpa using hj
    simp [Addr.add, go_sem])

set_option maxRecDepth 100000 in
set_option maxHeartbeats 1000000 in
theorem refbytes_any (n : Nat) (w : World) :
    Calls Tryd.prog 11 #[numV n] w fun e w' => e = .returned (.string ⟨(bytesL n).toArray⟩) ∧ Below w.heap.size w w' := by
  go_enter Tryd.func11, Tryd.ntmps11
  go_wp2
  go_loopw [3, 4] (fun s i wr => ∃ j : Nat, j ≤ 16 ∧ i = .int .i64 j ∧ s = .string (textP n j) ∧ Has wr [(w.heap.size, 0, .int .u64 ((hiN n : Nat) : Int)), (w.heap.size, 1, .int .u64 ((loN n : Nat) : Int))] ∧ Below w.heap.size w wr) (fun _ i _ => (16 - RowKit.intOf i).toNat)
  case atStart =>
    exact ⟨0, by omega, rfl, rfl, (show Has w [] from trivial).new2 _ _ _, (Below.refl _ _).alloc (Nat.le_refl _) _⟩
  case round =>
    obtain ⟨j, hj, rfl, rfl, hH, hb1⟩ := hrel
    by_cases hlt : j < 16
    · have hj2 : ((j : Nat) : Int) < 16 := by omega
      obtain ⟨⟨p0, q0⟩, ⟨p1, q1⟩, -⟩ := id hH
      try dsimp only at p0 q0 p1 q1
      go_wp2
      go_loopw [5, 6] (fun v i wi => ∃ m : Nat, m ≤ 8 ∧ i = .int .i64 ((m : Int) - 1) ∧ v = .int .i64 ((partB n j m : Nat) : Int) ∧ Has wi [(w.heap.size, 0, .int .u64 ((hiN n : Nat) : Int)), (w.heap.size, 1, .int .u64 ((loN n : Nat) : Int))] ∧ Below w.heap.size w wi) (fun _ i _ => (RowKit.intOf i + 1).toNat)
      case atStart => exact ⟨8, by omega, rfl, by rw [partB_start]; rfl, hH, hb1⟩
      case round =>
        clear hH hb1 p0 q0 p1 q1
        obtain ⟨m, hm, rfl, rfl, hH, hb1⟩ := hrel
        obtain ⟨⟨p0, q0⟩, ⟨p1, q1⟩, -⟩ := id hH
        try dsimp only at p0 q0 p1 q1
        by_cases hm0 : m = 0
        · subst hm0
          rw [partB_end n j]
          have hts := textP_succ n j
          have hsz := textP_size n j
          have hbs := byteT_size (byteN n j)
          have hx := UInt8.toNat_lt (byteN n j)
          have hcv := conv1 (byteN n j)
          generalize byteN n j = x at *
          replace hts := Lib.hid hts
          generalize textP n j = tx at *
          go_wp2
          exact ⟨⟨j + 1, by omega, by go_num, by rw [hts.out], hH.alloc _, hb1.alloc hb1.size _⟩, by simp [RowKit.intOf]; omega⟩
        · obtain ⟨p, rfl⟩ : ∃ p, m = p + 1 := ⟨m - 1, by omega⟩
          rw [show (((p + 1 : Nat) : Int) - 1) = (p : Int) by omega]
          have hlt1 := partB_lt n j (p + 1) hm
          have hbit := Lib.hid (fun w => bit_any n (8 * j + p) (by omega) w)
          have hlt2 := bitN_lt n (8 * j + p)
          have hst := Lib.hid (partB_step n j p (by omega))
          go_wp2_with fail
          rw [show (8 * (j : Int) + (p : Int)) = ((8 * j + p : Nat) : Int) by omega]
          refine (hbit.out _).mono ?_
          rintro e w2 ⟨rfl, hw2⟩
          replace hH := hH.later hw2
          replace hb1 := hb1.trans (hw2.mono hb1.size)
          clear hw2
          go_wp2
          exact ⟨⟨p, by omega, rfl, intV (by have := hst.out; omega), hH, hb1⟩, by simp [RowKit.intOf]⟩
    · obtain rfl : j = 16 := by omega
      go_wp2
      go_ret
      exact ⟨rfl, hb1⟩
end Go.Proofs.YtdphflbgecnhkaaDoor
