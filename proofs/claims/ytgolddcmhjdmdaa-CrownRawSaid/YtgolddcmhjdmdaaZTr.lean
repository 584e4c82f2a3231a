/- A list of cells that are known in a world, carried along. No program. -/
/- The document's own bytes: bit by bit. -/
/- FromBytes: the number of the first sixteen bytes. -/
/- The document's Int and Back: a number's lowest bytes, and the number that bytes are. No condition but at most eight bytes. -/
import Derived.Test.YtgolddcmhjdmdaaZBa
import Derived.WalkKit
import Derived.Lib.LazyBuf
import Derived.RegionTactic
import Derived.Lib.MinMax
import Derived.BigQuiet
namespace Go.Proofs.Ytgolddcmhjdmdaa
open Go.RowKit

/-- Known cells: block, offset, value. -/
def Has (w : World) : List (Nat × Nat × Value) → Prop
  | [] => True
  | f :: r => (w.cell? ⟨f.1, f.2.1, none⟩ = some f.2.2 ∧ f.1 < w.heap.size) ∧ Has w r
theorem Has.later {w w2 : World} (hb : Below w.heap.size w w2) : ∀ {fs : List (Nat × Nat × Value)}, Has w fs → Has w2 fs
  | [], _ => trivial
  | _ :: _, h => ⟨⟨by rw [hb.cell (by exact h.1.2)]; exact h.1.1, Nat.lt_of_lt_of_le h.1.2 hb.size⟩, Has.later hb h.2⟩
theorem Has.alloc {w : World} {fs : List (Nat × Nat × Value)} (h : Has w fs) (o : Obj) : Has (w.alloc o) fs := h.later ((Below.refl _ _).alloc (Nat.le_refl _) o)
end Go.Proofs.Ytgolddcmhjdmdaa
namespace Go.Proofs.Ytgolddcmhjdmdaa
open Go.RowKit Go.Sort Wm

def bytesP (n j : Nat) : List UInt8 := (List.range j).map (byteN n)
theorem bytesP_length (n j : Nat) : (bytesP n j).length = j := by simp [bytesP]
theorem bytesP_succ (n j : Nat) : bytesP n (j + 1) = bytesP n j ++ [byteN n j] := by simp [bytesP, List.range_succ]
def textP (n j : Nat) : ByteArray := ⟨(bytesP n j).toArray⟩
theorem textP_size (n j : Nat) : (textP n j).size = j := by
  show (bytesP n j).toArray.size = j
  simp [bytesP_length]
def byteT (x : UInt8) : ByteArray := ⟨#[x]⟩
theorem byteT_size (x : UInt8) : (byteT x).size = 1 := rfl
theorem textP_succ (n j : Nat) : textP n j ++ byteT (byteN n j) = textP n (j + 1) := by
  apply ByteArray.ext
  rw [ByteArray.data_append]
  show (bytesP n j).toArray ++ #[byteN n j] = (bytesP n (j + 1)).toArray
  rw [bytesP_succ]; simp
theorem conv1 (x : UInt8) (W : World) :
    (convert 53 9 (.slice (some ⟨W.heap.size, 0, none⟩) 1 1)).run Try.prog (W.alloc (.cells #[.int .u8 ((x.toNat : Nat) : Int)] 5)) = .ok (.string (byteT x)) (W.alloc (.cells #[.int .u8 ((x.toNat : Nat) : Int)] 5)) :=
  run_convert_bytes_back (P := Try.prog) _ 53 9 5 ⟨W.heap.size, 0, none⟩ 1 [x] Try.underlying53 Try.underlying5 Try.underlying9 (fun j hj => by
    obtain rfl : j = 0 := by simpa using hj
    simp [Addr.add, go_sem])

end Go.Proofs.Ytgolddcmhjdmdaa
namespace Go.Proofs.Ytgolddcmhjdmdaa
open Go.RowKit Go.Sort Wm

/-- The bytes of a string, by their places. -/
def byteAt (s : ByteArray) (j : Nat) : Nat := (s.data.toList.getD j 0).toNat
/-- What lies in memory once the bytes have gone over. -/
structure Fb (w wr : World) (s : ByteArray) : Prop where
  r0 : ∃ v, wr.cell? ⟨w.heap.size, 0, none⟩ = some v
  r1 : ∃ v, wr.cell? ⟨w.heap.size, 1, none⟩ = some v
  f0 : wr.frozen? ⟨w.heap.size, 0, none⟩ = false
  f1 : wr.frozen? ⟨w.heap.size, 1, none⟩ = false
  bytes : ∀ j, j < 16 → wr.cell? ⟨w.heap.size + 1, j, none⟩ = some (.int .u8 ((byteAt s j : Nat) : Int))
  size : w.heap.size + 1 < wr.heap.size
  below : Below w.heap.size w wr
theorem Fb.later {w wr w2 : World} {s : ByteArray} (h : Fb w wr s) (hb : Below wr.heap.size wr w2) : Fb w w2 s :=
  have hs := h.size
  have c1 : ∀ j, w2.cell? ⟨w.heap.size, j, none⟩ = wr.cell? ⟨w.heap.size, j, none⟩ := fun j => hb.cell (by show w.heap.size < _; omega)
  have f1 : ∀ j, w2.frozen? ⟨w.heap.size, j, none⟩ = wr.frozen? ⟨w.heap.size, j, none⟩ := fun j => hb.frozen (by show w.heap.size < _; omega)
  have c2 : ∀ j, w2.cell? ⟨w.heap.size + 1, j, none⟩ = wr.cell? ⟨w.heap.size + 1, j, none⟩ := fun j => hb.cell (by show w.heap.size + 1 < _; omega)
  ⟨by rw [c1]; exact h.r0, by rw [c1]; exact h.r1, by rw [f1]; exact h.f0, by rw [f1]; exact h.f1, fun j hj => by rw [c2]; exact h.bytes j hj, Nat.lt_of_lt_of_le h.size hb.size, h.below.trans (hb.mono (by omega))⟩
/-- .. and the number that is gathered, in a block behind. -/
structure Fg (w wr : World) (s : ByteArray) (g x y : Nat) : Prop where
  fb : Fb w wr s
  a0 : wr.cell? ⟨g, 0, none⟩ = some (.int .u64 ((x : Nat) : Int))
  a1 : wr.cell? ⟨g, 1, none⟩ = some (.int .u64 ((y : Nat) : Int))
  g0 : wr.frozen? ⟨g, 0, none⟩ = false
  g1 : wr.frozen? ⟨g, 1, none⟩ = false
  far : w.heap.size + 1 < g

theorem Fg.drew {w wr : World} {s : ByteArray} {g x y : Nat} (h : Fg w wr s g x y) : Fg w wr.drew s g x y :=
  ⟨h.fb.later ((Below.refl _ _).drew), h.a0, h.a1, h.g0, h.g1, h.far⟩
theorem cell_set_far {W : World} {b p c j : Nat} {x : Value} (h : c ≠ b ∨ j ≠ p) : (W.setCell ⟨b, p, none⟩ x).cell? ⟨c, j, none⟩ = W.cell? ⟨c, j, none⟩ := by
  rw [World.cell?_setCell_other]
  intro e; injection e with e1 e2 _; omega
theorem Fb.put {w wr : World} {s : ByteArray} {g j : Nat} (h : Fb w wr s) (hg : w.heap.size + 1 < g) (v : Value) : Fb w (wr.setCell ⟨g, j, none⟩ v) s :=
  ⟨by rw [cell_set_far (by omega)]; exact h.r0, by rw [cell_set_far (by omega)]; exact h.r1, by simpa using h.f0, by simpa using h.f1, fun i hi => by rw [cell_set_far (by omega)]; exact h.bytes i hi, by simpa using h.size, h.below.setCell (by show _ ≤ g; omega) _⟩
theorem Fg.put0 {w wr : World} {s : ByteArray} {g x y z : Nat} (h : Fg w wr s g x y) : Fg w (wr.setCell ⟨g, 0, none⟩ (.int .u64 ((z : Nat) : Int))) s g z y :=
  ⟨h.fb.put h.far _, World.cell?_setCell_same _ _ _ h.a0, by rw [cell_set_far (by omega)]; exact h.a1, by simpa using h.g0, by simpa using h.g1, h.far⟩
theorem or_step (v x k : Nat) (hv : v < 2 ^ (8 * k)) (hx : x < 256) (hk : k < 8) : bits .or .u64 ((v : Nat) : Int) (IntKind.u64.wrap (((x : Nat) : Int) * 2 ^ (8 * k))) = ((v + x * 2 ^ (8 * k) : Nat) : Int) := by
  have h1 : 2 ^ (8 * k) ≤ 2 ^ 56 := Nat.pow_le_pow_right (by omega) (by omega)
  have h3 : x * 2 ^ (8 * k) ≤ 255 * 2 ^ (8 * k) := Nat.mul_le_mul_right _ (by omega)
  have h4 : x * 2 ^ (8 * k) < 18446744073709551616 := by omega
  have e1 : ((x : Nat) : Int) * 2 ^ (8 * k) = ((x * 2 ^ (8 * k) : Nat) : Int) := by rw [Int.natCast_mul, Int.natCast_pow]; rfl
  rw [e1, wrap_u64_small _ h4, bits_or_u64_nat _ _ (by omega) h4, Nat.or_comm, Nat.mul_comm, ← Nat.two_pow_add_eq_or_of_lt hv, Nat.add_comm]

end Go.Proofs.Ytgolddcmhjdmdaa
namespace Go.Proofs.Ytgolddcmhjdmdaa
open Go.RowKit Wm

/-- How many bytes; the number without a sign. -/
def sizeK (size : Int) : Nat := (min (max size 1) 8).toNat
def u64N (n : Int) : Nat := (n % 18446744073709551616).toNat
theorem sizeK_le (size : Int) : 1 ≤ sizeK size ∧ sizeK size ≤ 8 := by unfold sizeK; omega
theorem sizeK_int (size : Int) : min (max size 1) 8 = ((sizeK size : Nat) : Int) := by unfold sizeK; omega
theorem u64N_lt (n : Int) : u64N n < 18446744073709551616 := by unfold u64N; omega
theorem u64N_int (n : Int) : n % 18446744073709551616 = ((u64N n : Nat) : Int) := by unfold u64N; omega
theorem u64N_wrap (n : Int) : IntKind.u64.wrap n = ((u64N n : Nat) : Int) := by rw [← u64N_int]; simp [IntKind.wrap, IntKind.bits, IntKind.signed]
/-- The bytes of a number. -/
def intB (size n : Int) : ByteArray := textP (u64N n) (sizeK size)
theorem intB_size (size n : Int) : (intB size n).size = sizeK size := textP_size _ _
theorem byte_form (U m : Nat) : ((U / 2 ^ (8 * m) : Nat) : Int) % 256 = (((byteN U m).toNat : Nat) : Int) := by
  rw [byteN_toNat]; exact (Int.natCast_emod _ _).symm
theorem div_form (U m : Nat) : ((U / 2 ^ (8 * m) : Nat) : Int) / 256 = ((U / 2 ^ (8 * (m + 1)) : Nat) : Int) := by
  rw [show 8 * (m + 1) = 8 * m + 8 by omega, Nat.pow_add, ← Nat.div_div_eq_div_mul]
  exact (Int.natCast_ediv _ _).symm
theorem part_lt (U m : Nat) (h : U < 18446744073709551616) : U / 2 ^ (8 * m) < 18446744073709551616 := Nat.lt_of_le_of_lt (Nat.div_le_self _ _) h

set_option maxRecDepth 100000 in
set_option maxHeartbeats 1000000 in
theorem refint_any (size n : Int) (w : World) :
    Calls Try.prog 39 #[.int .i64 size, .int .i64 n] w fun e w' => e = .returned (.string (intB size n)) ∧ Below w.heap.size w w' := by
  have hk := sizeK_le size
  have hki := Lib.hid (sizeK_int size)
  have hU := u64N_lt n
  have hUi := Lib.hid (u64N_int n)
  have hUw := Lib.hid (u64N_wrap n)
  have hB := Lib.hid (show intB size n = textP (u64N n) (sizeK size) from rfl)
  go_enter Try.func39, Try.ntmps39
  go_wp2
  rw [hki.out, hUw.out]
  generalize sizeK size = k at *
  generalize u64N n = U at *
  go_loopw [6, 7, 8] (fun u s i wr => ∃ m : Nat, m ≤ k ∧ i = .int .i64 m ∧ u = .int .u64 ((U / 2 ^ (8 * m) : Nat) : Int) ∧ s = .string (textP U m) ∧ Below w.heap.size w wr) (fun _ _ i _ => (k - RowKit.intOf i).toNat)
  case atStart => exact ⟨0, by omega, rfl, by simp, rfl, Below.refl _ _⟩
  case round =>
    obtain ⟨m, hm, rfl, rfl, rfl, hb⟩ := hrel
    by_cases hlt : m < k
    · have hsz := textP_size U m
      have hs1 := byteT_size (byteN U m)
      have hsu := Lib.hid (textP_succ U m)
      have hcv := conv1 (byteN U m)
      have hbf := byte_form U m
      have hdf := Lib.hid (div_form U m)
      have hpl := part_lt U m hU
      generalize U / 2 ^ (8 * m) = V at *
      go_wp2
      exact ⟨⟨m + 1, by omega, by go_num, by rw [hdf.out], by rw [hsu.out], hb.alloc hb.size _⟩, by simp [RowKit.intOf]; omega⟩
    · obtain rfl : m = k := by omega
      go_wp2
      go_ret
      exact ⟨by rw [hB.out]; rfl, hb⟩

/-- The number that bytes are, the lowest first. -/
def valL : List Nat → Nat
  | [] => 0
  | b :: r => b + 256 * valL r
/-- A text's bytes as numbers. -/
def bytesN (s : ByteArray) : List Nat := s.data.toList.map UInt8.toNat
theorem bytesN_length (s : ByteArray) : (bytesN s).length = s.size := by unfold bytesN; rw [List.length_map]; rfl
theorem bytesN_lt (s : ByteArray) : ∀ b ∈ bytesN s, b < 256 := by
  intro b hb
  unfold bytesN at hb
  obtain ⟨x, _, rfl⟩ := List.mem_map.mp hb
  exact UInt8.toNat_lt x
theorem bytesN_get (s : ByteArray) (i : Nat) (h : i < s.size) : (bytesN s)[i]'(by rw [bytesN_length]; exact h) = s[i].toNat := by
  unfold bytesN; rw [List.getElem_map]; rfl
theorem valL_lt : ∀ (l : List Nat), (∀ b ∈ l, b < 256) → valL l < 256 ^ l.length
  | [], _ => by simp [valL]
  | b :: r, h => by
    have h1 := valL_lt r (fun x hx => h x (List.mem_cons_of_mem _ hx))
    have h2 := h b (List.mem_cons_self ..)
    simp only [valL, List.length_cons, Nat.pow_succ]
    omega
/-- What Back answers of at most eight bytes. -/
def backZ (s : ByteArray) : Int := wrap64 ((valL (bytesN s) : Nat) : Int)

end Go.Proofs.Ytgolddcmhjdmdaa
