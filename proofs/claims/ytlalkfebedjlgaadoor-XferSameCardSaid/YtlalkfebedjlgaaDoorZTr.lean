/- The document's Int and Back: a number's lowest bytes, and the number that bytes are. No condition but at most eight bytes. -/
import Derived.Test.YtlalkfebedjlgaaDoorZBc
import Derived.Lib.MinMax
import Derived.BigQuiet
namespace Go.Proofs.YtlalkfebedjlgaaDoor
open Go.RowKit Wm

/-- How many bytes; the number without a sign. -/
def sizeK (size : Int) : Nat := (min (max size 1) 8).toNat
def u64N (n : Int) : Nat := (n % 18446744073709551616).toNat
theorem sizeK_le (size : Int) : 1 ≤ sizeK size ∧ sizeK size ≤ 8 := by unfold sizeK; omega
theorem sizeK_int (size : Int) : min (max size 1) 8 = ((sizeK size : Nat) : Int) := by unfold sizeK; omega
theorem u64N_lt (n : Int) : u64N n < 18446744073709551616 := by unfold u64N; omega
theorem u64N_int (n : Int) : n % 18446744073709551616 = ((u64N n : Nat) : Int) := by unfold u64N; omega
theorem u64N_wrap (n : Int) : IntKind.u64.wrap n = ((u64N n : Nat) : Int) := by rw [← u64N_int]; simp [IntKind.wrap, IntKind.bits, IntKind.signed]
/-- The bytes of a number. -/
def intB (size n : Int) : ByteArray := textP (u64N n) (sizeK size)
theorem intB_size (size n : Int) : (intB size n).size = sizeK size := textP_size _ _
theorem byte_form (U m : Nat) : ((U / 2 ^ (8 * m) : Nat) : Int) % 256 = (((byteN U m).toNat : Nat) : Int) := by
  rw [byteN_toNat]; exact (Int.natCast_emod _ _).symm
theorem div_form (U m : Nat) : ((U / 2 ^ (8 * m) : Nat) : Int) / 256 = ((U / 2 ^ (8 * (m + 1)) : Nat) : Int) := by
  rw [show 8 * (m + 1) = 8 * m + 8 by omega, Nat.pow_add, ← Nat.div_div_eq_div_mul]
  exact (Int.natCast_ediv _ _).symm
theorem part_lt (U m : Nat) (h : U < 18446744073709551616) : U / 2 ^ (8 * m) < 18446744073709551616 := Nat.lt_of_le_of_lt (Nat.div_le_self _ _) h

set_option maxRecDepth 100000 in
set_option maxHeartbeats 1000000 in
theorem refint_any (size n : Int) (w : World) :
    Calls Tryd.prog 45 #[.int .i64 size, .int .i64 n] w fun e w' => e = .returned (.string (intB size n)) ∧ Below w.heap.size w w' := by
  have hk := sizeK_le size
  have hki := Lib.hid (sizeK_int size)
  have hU := u64N_lt n
  have hUi := Lib.hid (u64N_int n)
  have hUw := Lib.hid (u64N_wrap n)
  have hB := Lib.hid (show intB size n = textP (u64N n) (sizeK size) from rfl)
  go_enter Tryd.func45, Tryd.ntmps45
  go_wp2
  rw [hki.out, hUw.out]
  generalize sizeK size = k at *
  generalize u64N n = U at *
  go_loopw [6, 7, 8] (fun u s i wr => ∃ m : Nat, m ≤ k ∧ i = .int .i64 m ∧ u = .int .u64 ((U / 2 ^ (8 * m) : Nat) : Int) ∧ s = .string (textP U m) ∧ Below w.heap.size w wr) (fun _ _ i _ => (k - RowKit.intOf i).toNat)
  case atStart => exact ⟨0, by omega, rfl, by simp, rfl, Below.refl _ _⟩
  case round =>
    obtain ⟨m, hm, rfl, rfl, rfl, hb⟩ := hrel
    by_cases hlt : m < k
    · have hsz := textP_size U m
      have hs1 := byteT_size (byteN U m)
      have hsu := Lib.hid (textP_succ U m)
      have hcv := conv1 (byteN U m)
      have hbf := byte_form U m
      have hdf := Lib.hid (div_form U m)
      have hpl := part_lt U m hU
      generalize U / 2 ^ (8 * m) = V at *
      go_wp2
      exact ⟨⟨m + 1, by omega, by go_num, by rw [hdf.out], by rw [hsu.out], hb.alloc hb.size _⟩, by simp [RowKit.intOf]; omega⟩
    · obtain rfl : m = k := by omega
      go_wp2
      go_ret
      exact ⟨by rw [hB.out]; rfl, hb⟩

/-- The number that bytes are, the lowest first. -/
def valL : List Nat → Nat
  | [] => 0
  | b :: r => b + 256 * valL r
/-- A text's bytes as numbers. -/
def bytesN (s : ByteArray) : List Nat := s.data.toList.map UInt8.toNat
theorem bytesN_length (s : ByteArray) : (bytesN s).length = s.size := by unfold bytesN; rw [List.length_map]; rfl
theorem bytesN_lt (s : ByteArray) : ∀ b ∈ bytesN s, b < 256 := by
  intro b hb
  unfold bytesN at hb
  obtain ⟨x, _, rfl⟩ := List.mem_map.mp hb
  exact UInt8.toNat_lt x
theorem bytesN_get (s : ByteArray) (i : Nat) (h : i < s.size) : (bytesN s)[i]'(by rw [bytesN_length]; exact h) = s[i].toNat := by
  unfold bytesN; rw [List.getElem_map]; rfl
theorem valL_lt : ∀ (l : List Nat), (∀ b ∈ l, b < 256) → valL l < 256 ^ l.length
  | [], _ => by simp [valL]
  | b :: r, h => by
    have h1 := valL_lt r (fun x hx => h x (List.mem_cons_of_mem _ hx))
    have h2 := h b (List.mem_cons_self ..)
    simp only [valL, List.length_cons, Nat.pow_succ]
    omega
/-- What Back answers of at most eight bytes. -/
def backZ (s : ByteArray) : Int := wrap64 ((valL (bytesN s) : Nat) : Int)

end Go.Proofs.YtlalkfebedjlgaaDoor
