/- The document's sum: bit by bit. No condition but the text's size. -/
/- The document's four bytes of a sum. No condition but the sum's size. -/
/- The machine of stage 4: a disk of sectors as plain lists. No program. -/
/- Stage 5: of two texts of 128 bytes the first bytes of the one with the last ones of the other. Plain: no program, no condition. -/
/- Stage 5: a leaf's sector, as bytes. Plain: no condition. -/
/- The landed Bytes and FromBytes of a sum. No condition but the sum's size. -/
import Derived.Test.YtfdanlfiaoedfaaRows
import Derived.Test.YtfdanlfiaoedfaaZTt
import Derived.Test.YtfdanlfiaoedfaaZCrc
import Derived.WalkKit
import Derived.WalkSpells
import Derived.WalkLawsBesides
import Derived.Lib.QuietBelow
import Derived.Lib.Hide
import Derived.BigQuiet
import Derived.Deep.DeepCutAuto
import Derived.Laws.BitsAllLaws
import Derived.IntWalk
import Derived.RowKit
import Derived.Lib.LazyBuf
import Derived.RegionTactic
import Derived.Deep.RegionWith
import Derived.Deep.RegionHeld3
namespace Go.Proofs.Ytfdanlfiaoedfaa
open Go.RowKit Go.Sort Cr

/-- A text's bytes, as numbers. -/
def bytesC (s : ByteArray) : List Nat := s.data.toList.map UInt8.toNat
end Go.Proofs.Ytfdanlfiaoedfaa
namespace Go.Proofs.Ytfdanlfiaoedfaa
open Go.RowKit Go.Sort Cr

/-- A sum's four bytes, as a text. -/
def byteU (x : Nat) : UInt8 := UInt8.ofNat (x % 256)
def fourL (c : Nat) : List UInt8 := [byteU c, byteU (c / 256), byteU (c / 65536), byteU (c / 16777216)]
def fourT (c : Nat) : ByteArray := ⟨(fourL c).toArray⟩
end Go.Proofs.Ytfdanlfiaoedfaa
namespace Go.Proofs.Ytfdanlfiaoedfaa
open Go

/-- What lasts; the writes behind that, where and what; how many operations were tried; when one fails. -/
structure St where
  safe : List ByteArray
  later : List (Nat × ByteArray)
  ops : Int
  arm : Int
def zerosB (n : Nat) : ByteArray := ⟨(List.replicate n (0 : UInt8)).toArray⟩
theorem zerosB_size (n : Nat) : (zerosB n).size = n := by
  show (List.replicate n (0 : UInt8)).toArray.size = n
  simp
def St.new (n : Int) : St := ⟨List.replicate (min (max n 0) 4096).toNat (zerosB 128), [], 0, 0⟩
/-- What a sector holds. -/
def nowAt (later : List (Nat × ByteArray)) (i : Nat) (s : ByteArray) : ByteArray := later.foldl (fun s w => if w.1 = i then w.2 else s) s
def St.now (st : St) (i : Nat) : ByteArray := nowAt st.later i (st.safe.getD i ByteArray.empty)
/-- An operation is tried. -/
def St.tried (st : St) : St := { st with ops := st.ops + 1, arm := st.arm - 1 }
def St.fails (st : St) : Bool := decide (st.arm - 1 = 0)
/-- What can be: sectors of 128 bytes, writes of sectors that are there. -/
structure St.Fit (st : St) : Prop where
  safe : ∀ s ∈ st.safe, s.size = 128
  data : ∀ w ∈ st.later, w.2.size = 128 ∧ w.1 < st.safe.length
  many : st.safe.length ≤ 4096
  few : st.later.length ≤ 1000
structure St.Ok (st : St) : Prop extends St.Fit st where
  ops : 0 ≤ st.ops ∧ st.ops ≤ 1000000
  arm : -1000000 ≤ st.arm ∧ st.arm ≤ 9223372036854775807
theorem St.Fit.tried {st : St} (h : st.Fit) : st.tried.Fit := ⟨h.safe, h.data, h.many, h.few⟩
theorem St.Ok.new (n : Int) : (St.new n).Ok where
  safe := fun s hs => by rw [List.eq_of_mem_replicate hs]; exact zerosB_size 128
  data := fun w hw => by simp [St.new] at hw
  many := by simp [St.new]; omega
  few := by simp [St.new]
  ops := by simp [St.new]
  arm := by simp [St.new]
end Go.Proofs.Ytfdanlfiaoedfaa
namespace Go.Proofs.Ytfdanlfiaoedfaa
open Go

/-- The eight bytes from a place on are alike. -/
def Alike (x : ByteArray) (i : Nat) (y : ByteArray) (j : Nat) : Prop := x.extract i (i + 8) = y.extract j (j + 8)
theorem Alike.at {x y : ByteArray} (hx : x.size = 128) (hy : y.size = 128) {i j : Nat} (hi : i ≤ 120) (hj : j ≤ 120) (h : Alike x i y j) (d : Nat) (hd : d < 8) : x[i + d]'(by omega) = y[j + d]'(by omega) := by
  unfold Alike at h
  have e1 : (x.extract i (i + 8)).size = 8 := by rw [ByteArray.size_extract]; omega
  have e2 : (y.extract j (j + 8)).size = 8 := by rw [ByteArray.size_extract]; omega
  have a : (x.extract i (i + 8))[d]'(by omega) = x[i + d]'(by omega) := by rw [ByteArray.getElem_extract]
  have b : (y.extract j (j + 8))[d]'(by omega) = y[j + d]'(by omega) := by rw [ByteArray.getElem_extract]
  rw [← a, ← b]
  congr 1
theorem Alike.of {x y : ByteArray} (hx : x.size = 128) (hy : y.size = 128) {i j : Nat} (hi : i ≤ 120) (hj : j ≤ 120) (h : ∀ d (hd : d < 8), x[i + d]'(by omega) = y[j + d]'(by omega)) : Alike x i y j := by
  unfold Alike
  have e1 : (x.extract i (i + 8)).size = 8 := by rw [ByteArray.size_extract]; omega
  have e2 : (y.extract j (j + 8)).size = 8 := by rw [ByteArray.size_extract]; omega
  refine ByteArray.ext_getElem (by omega) (fun d h1 h2 => ?_)
  rw [ByteArray.getElem_extract, ByteArray.getElem_extract]
  exact h d (by omega)
theorem Alike.symm {x y : ByteArray} {i j : Nat} (h : Alike x i y j) : Alike y j x i := Eq.symm h
theorem Alike.trans {x y z : ByteArray} {i j k : Nat} (h : Alike x i y j) (h2 : Alike y j z k) : Alike x i z k := Eq.trans h h2
section
variable {x y : ByteArray} (hx : x.size = 128) (hy : y.size = 128) {k : Nat} (hk : k ≤ 128)
include hx hy hk
end
end Go.Proofs.Ytfdanlfiaoedfaa
namespace Go.Proofs.Ytfdanlfiaoedfaa
open Go Cr

theorem cut_left (a b : ByteArray) (i j : Nat) (h : j ≤ a.size) : (a ++ b).extract i j = a.extract i j := by
  rw [ByteArray.extract_append, ByteArray.extract_eq_empty_iff.2 (by omega : min (j - a.size) b.size ≤ i - a.size), ByteArray.append_empty]
theorem cut_right (a b : ByteArray) (i j : Nat) (h : a.size ≤ i) : (a ++ b).extract i j = b.extract (i - a.size) (j - a.size) := by
  rw [ByteArray.extract_append, ByteArray.extract_eq_empty_iff.2 (by omega : min j a.size ≤ i), ByteArray.empty_append]
theorem cut_all (a : ByteArray) (j : Nat) (h : j = a.size) : a.extract 0 j = a := by subst h; exact ByteArray.extract_zero_size
/-- All but the sum and the last number. -/
def bodyB (N I : Int) (D : ByteArray) : ByteArray := intB 8 N ++ (intB 2 I ++ (intB 2 ((D.size : Nat) : Int) ++ (D ++ zerosB (104 - D.size))))
/-- A leaf's sector. -/
def secB (N I : Int) (D : ByteArray) : ByteArray := bodyB N I D ++ (fourT (sumC 0 (bytesC (bodyB N I D))) ++ intB 8 N)
structure LeafOk (N I : Int) (D : ByteArray) : Prop where
  n : 1 ≤ N ∧ N ≤ 1152921504606846976
  i : 0 ≤ I ∧ I < 4096
  d : D.size ≤ 104
theorem int8_size (n : Int) : (intB 8 n).size = 8 := by rw [intB_size]; rfl
theorem int2_size (n : Int) : (intB 2 n).size = 2 := by rw [intB_size]; rfl
theorem intB_inj8 {n m : Int} (hn : 0 ≤ n ∧ n < 18446744073709551616) (hm : 0 ≤ m ∧ m < 18446744073709551616) (h : intB 8 n = intB 8 m) : n = m := by
  have e : ∀ z : Int, valL (bytesN (intB 8 z)) = u64N z % 256 ^ 8 := fun z => valL_textP _ _
  have := (e n).symm.trans ((congrArg (fun s => valL (bytesN s)) h).trans (e m))
  have h1 := u64N_lt n
  have h2 := u64N_lt m
  unfold u64N at *
  omega
theorem intB_inj2 {n m : Int} (hn : 0 ≤ n ∧ n < 65536) (hm : 0 ≤ m ∧ m < 65536) (h : intB 2 n = intB 2 m) : n = m := by
  have e : ∀ z : Int, valL (bytesN (intB 2 z)) = u64N z % 256 ^ 2 := fun z => valL_textP _ _
  have := (e n).symm.trans ((congrArg (fun s => valL (bytesN s)) h).trans (e m))
  unfold u64N at *
  omega
section
variable {N I : Int} {D : ByteArray} (hD : D.size ≤ 104)
include hD
theorem bodyB_size : (bodyB N I D).size = 116 := by
  unfold bodyB
  rw [ByteArray.size_append, ByteArray.size_append, ByteArray.size_append, ByteArray.size_append, int8_size, int2_size, int2_size, zerosB_size]
  omega
theorem secB_head : (secB N I D).extract 0 8 = intB 8 N := by
  unfold secB
  rw [cut_left _ _ _ _ (by rw [bodyB_size hD]; omega)]
  unfold bodyB
  rw [cut_left _ _ _ _ (by rw [int8_size]; omega)]
  exact cut_all _ _ (by rw [int8_size])
theorem secB_index : (secB N I D).extract 8 10 = intB 2 I := by
  unfold secB
  rw [cut_left _ _ _ _ (by rw [bodyB_size hD]; omega)]
  unfold bodyB
  rw [cut_right _ _ _ _ (by rw [int8_size]; omega), int8_size, cut_left _ _ _ _ (by rw [int2_size]; omega)]
  exact cut_all _ _ (by rw [int2_size])
theorem secB_len : (secB N I D).extract 10 12 = intB 2 ((D.size : Nat) : Int) := by
  unfold secB
  rw [cut_left _ _ _ _ (by rw [bodyB_size hD]; omega)]
  unfold bodyB
  rw [cut_right _ _ _ _ (by rw [int8_size]; omega), int8_size, cut_right _ _ _ _ (by rw [int2_size]; omega), int2_size, cut_left _ _ _ _ (by rw [int2_size]; omega)]
  exact cut_all _ _ (by rw [int2_size])
theorem secB_data : (secB N I D).extract 12 (12 + D.size) = D := by
  unfold secB
  rw [cut_left _ _ _ _ (by rw [bodyB_size hD]; omega)]
  unfold bodyB
  rw [cut_right _ _ _ _ (by rw [int8_size]; omega), int8_size, cut_right _ _ _ _ (by rw [int2_size]; omega), int2_size, cut_right _ _ _ _ (by rw [int2_size]; omega), int2_size, cut_left _ _ _ _ (by omega)]
  exact cut_all _ _ (by omega)
end
/-- A sector is one leaf's. -/
theorem secB_inj {N I : Int} {D : ByteArray} {N' I' : Int} {D' : ByteArray} (h : LeafOk N I D) (h' : LeafOk N' I' D') (e : secB N I D = secB N' I' D') : N = N' ∧ I = I' ∧ D = D' := by
  have a1 := h.n
  have a2 := h'.n
  have b1 := h.i
  have b2 := h'.i
  have d1 := h.d
  have d2 := h'.d
  have eN := intB_inj8 (by omega) (by omega) ((secB_head d1).symm.trans ((congrArg (fun s => s.extract 0 8) e).trans (secB_head d2)))
  have eI := intB_inj2 (by omega) (by omega) ((secB_index d1).symm.trans ((congrArg (fun s => s.extract 8 10) e).trans (secB_index d2)))
  have eL := intB_inj2 (by omega) (by omega) ((secB_len d1).symm.trans ((congrArg (fun s => s.extract 10 12) e).trans (secB_len d2)))
  have eL2 : D.size = D'.size := by omega
  refine ⟨eN, eI, ?_⟩
  have e3 : (secB N' I' D').extract 12 (12 + D.size) = D' := by rw [eL2]; exact secB_data d2
  exact (secB_data d1).symm.trans ((congrArg (fun s => s.extract 12 (12 + D.size)) e).trans e3)
end Go.Proofs.Ytfdanlfiaoedfaa
namespace Go.Proofs.Ytfdanlfiaoedfaa
open Go.RowKit Go.Sort Cr

/-- Byte j of a sum. -/
def byte4 (c j : Nat) : UInt8 := byteU (c / 2 ^ (8 * j))
theorem fourL_map (c : Nat) : fourL c = (List.range 4).map (byte4 c) := by
  unfold fourL byte4
  simp [List.range_succ]
/-- What lies in memory while the bytes are laid. -/
structure By4 (w wr : World) (c k : Nat) : Prop where
  old : ∀ j, j < 4 → ∃ v, wr.cell? ⟨w.heap.size, j, none⟩ = some v
  fz : ∀ j, wr.frozen? ⟨w.heap.size, j, none⟩ = false
  lo : ∀ j, j < k → wr.cell? ⟨w.heap.size, j, none⟩ = some (.int .u8 (((byte4 c j).toNat : Nat) : Int))
  below : Below w.heap.size w wr
theorem By4.put {w wr : World} {c k : Nat} (h : By4 w wr c k) (hk : k < 4) (x : Int) (hx : x = (((byte4 c k).toNat : Nat) : Int)) :
    By4 w (wr.setCell ⟨w.heap.size, k, none⟩ (.int .u8 x)) c (k + 1) := by
  obtain ⟨u, hu⟩ := h.old k (by omega)
  have far : ∀ j, j ≠ k → (wr.setCell ⟨w.heap.size, k, none⟩ (.int .u8 x)).cell? ⟨w.heap.size, j, none⟩ = wr.cell? ⟨w.heap.size, j, none⟩ := fun j hj => by
    rw [World.cell?_setCell_other]
    intro e; injection e with e1 e2 _; omega
  have same : (wr.setCell ⟨w.heap.size, k, none⟩ (.int .u8 x)).cell? ⟨w.heap.size, k, none⟩ = some (.int .u8 x) := World.cell?_setCell_same _ _ _ hu
  refine ⟨fun j hj => ?_, fun j => by simpa using h.fz j, fun j hj => ?_, h.below.setCell (Nat.le_refl _) _⟩
  · by_cases e : j = k
    · subst e; exact ⟨_, same⟩
    · rw [far j e]; exact h.old j hj
  · by_cases e : j = k
    · subst e; rw [same, hx]
    · rw [far j e]; exact h.lo j (by omega)
theorem By4.text {w wr : World} {c : Nat} (h : By4 w wr c 4) :
    (convert 55 9 (.slice (some ⟨w.heap.size, 0, none⟩) 4 4)).run Try.prog wr = .ok (.string (fourT c)) wr := by
  have := run_convert_bytes_back (P := Try.prog) wr 55 9 5 ⟨w.heap.size, 0, none⟩ 4 (fourL c) Try.underlying55 Try.underlying5 Try.underlying9 (fun j hj => by
    have hj2 : j < 4 := hj
    have := h.lo j hj2
    have e : (fourL c)[j]'hj = byte4 c j := by simp [fourL_map]
    rw [e]
    simp only [Addr.add]
    split
    · rename_i h0; subst h0; simpa using this
    · simpa using this)
  exact this
end Go.Proofs.Ytfdanlfiaoedfaa
