/- The document's four bytes of a sum. No condition but the sum's size. -/
/- The landed sum: a byte's step, and a text's. No condition but the text's size. -/
/- The landed Bytes and FromBytes of a sum. No condition but the sum's size. -/
import Derived.Test.YtgolddcmhjdmdaaZCa
import Derived.RegionTactic
import Derived.Deep.RegionWith
import Derived.Deep.RegionHeld3
import Derived.Lib.LazyBuf
namespace Go.Proofs.Ytgolddcmhjdmdaa
open Go.RowKit Go.Sort Cr

/-- A sum's four bytes, as a text. -/
def byteU (x : Nat) : UInt8 := UInt8.ofNat (x % 256)
theorem byteU_toNat (x : Nat) : (byteU x).toNat = x % 256 := by unfold byteU; rw [UInt8.toNat_ofNat']; omega
def fourL (c : Nat) : List UInt8 := [byteU c, byteU (c / 256), byteU (c / 65536), byteU (c / 16777216)]
def fourT (c : Nat) : ByteArray := ⟨(fourL c).toArray⟩
theorem fourT_size (c : Nat) : (fourT c).size = 4 := rfl
theorem conv4 (x0 x1 x2 x3 : UInt8) (W : World) :
    (convert 53 9 (.slice (some ⟨W.heap.size, 0, none⟩) 4 4)).run Try.prog (W.alloc (.cells #[.int .u8 ((x0.toNat : Nat) : Int), .int .u8 ((x1.toNat : Nat) : Int), .int .u8 ((x2.toNat : Nat) : Int), .int .u8 ((x3.toNat : Nat) : Int)] 5)) = .ok (.string ⟨#[x0, x1, x2, x3]⟩) (W.alloc (.cells #[.int .u8 ((x0.toNat : Nat) : Int), .int .u8 ((x1.toNat : Nat) : Int), .int .u8 ((x2.toNat : Nat) : Int), .int .u8 ((x3.toNat : Nat) : Int)] 5)) :=
  run_convert_bytes_back (P := Try.prog) _ 53 9 5 ⟨W.heap.size, 0, none⟩ 4 [x0, x1, x2, x3] Try.underlying53 Try.underlying5 Try.underlying9 (fun j hj => by
    have hj4 : j < 4 := by simpa using hj
    rcases j with _ | _ | _ | _ | j
    · simp [Addr.add, go_sem]
    · simp [Addr.add, go_sem]
    · simp [Addr.add, go_sem]
    · simp [Addr.add, go_sem]
    · omega)
theorem conv4c (c : Nat) (hc : c < 4294967296) (W : World) :
    (convert 53 9 (.slice (some ⟨W.heap.size, 0, none⟩) 4 4)).run Try.prog (W.alloc (.cells #[.int .u8 (((c : Nat) : Int) % 256), .int .u8 (((c : Nat) : Int) / 256 % 256), .int .u8 (((c : Nat) : Int) / 65536 % 256), .int .u8 (((c : Nat) : Int) / 16777216)] 5)) = .ok (.string (fourT c)) (W.alloc (.cells #[.int .u8 (((c : Nat) : Int) % 256), .int .u8 (((c : Nat) : Int) / 256 % 256), .int .u8 (((c : Nat) : Int) / 65536 % 256), .int .u8 (((c : Nat) : Int) / 16777216)] 5)) := by
  have h := conv4 (byteU c) (byteU (c / 256)) (byteU (c / 65536)) (byteU (c / 16777216)) W
  rw [byteU_toNat, byteU_toNat, byteU_toNat, byteU_toNat] at h
  rw [show ((c : Nat) : Int) % 256 = ((c % 256 : Nat) : Int) by omega, show ((c : Nat) : Int) / 256 % 256 = ((c / 256 % 256 : Nat) : Int) by omega, show ((c : Nat) : Int) / 65536 % 256 = ((c / 65536 % 256 : Nat) : Int) by omega, show ((c : Nat) : Int) / 16777216 = ((c / 16777216 % 256 : Nat) : Int) by omega]
  exact h

set_option maxRecDepth 100000 in
set_option maxHeartbeats 1000000 in
theorem refbytes4_any (c : Nat) (hc : c < W) (w : World) :
    Calls Try.prog 40 #[.int .u32 ((c : Nat) : Int)] w fun e w' => e = .returned (.string (fourT c)) ∧ Below w.heap.size w w' := by
  rw [W_eq] at hc
  have hcv := conv4c c hc
  go_enter Try.func40, Try.ntmps40
  go_wp2
  go_ret
  exact ⟨rfl, (Below.refl _ _).alloc (Nat.le_refl _) _⟩
end Go.Proofs.Ytgolddcmhjdmdaa
namespace Go.Proofs.Ytgolddcmhjdmdaa
open Go.RowKit Go.Sort Cr

theorem and1_form (r : Nat) (h : r < 4294967296) : bits .and .u32 ((r : Nat) : Int) 1 = ((r % 2 : Nat) : Int) := by
  have := u32_and_nat r 1 h (by omega)
  rw [Nat.and_one_is_mod] at this
  exact this
theorem not_form (r : Nat) (h : r < W) : bits .xor .u32 IntKind.u32.max ((r : Nat) : Int) = ((4294967295 - r : Nat) : Int) := by
  have hh := h
  rw [W_eq] at hh
  rw [not_eq h]
  exact u32_xor_nat 4294967295 r (by omega) hh
theorem xorb_form (r b : Nat) (h : r < 4294967296) (hb : b < 256) : bits .xor .u32 ((r : Nat) : Int) ((b : Nat) : Int) = ((r ^^^ b : Nat) : Int) := u32_xor_nat r b h (by omega)

set_option maxRecDepth 100000 in
set_option maxHeartbeats 1000000 in
theorem withbyte_any (c b : Nat) (hc : c < W) (hb : b < 256) (w : World) :
    Calls Try.prog 62 #[.int .u32 ((c : Nat) : Int), .int .u8 ((b : Nat) : Int)] w fun e w' => e = .returned (.int .u32 ((byteC c b : Nat) : Int)) ∧ w = w' := by
  have hx := xor_lt hc (byte_lt_W hb)
  rw [W_eq] at hc
  have hxf := Lib.hid (xorb_form c b hc hb)
  have hlt := Lib.hid (fun k => bitsC_lt k hx)
  have hsu := Lib.hid (fun k => bitsC_succ k (c ^^^ b))
  have he := Lib.hid (show byteC c b = bitsC 8 (c ^^^ b) from rfl)
  have hz : bitsC 0 (c ^^^ b) = c ^^^ b := rfl
  replace hz := Lib.hid hz
  clear hx
  go_enter Try.func62, Try.ntmps62
  go_wp2
  rw [hxf.out, ← hz.out]
  generalize c ^^^ b = x at *
  go_loopw [0, 10] (fun c i wr => ∃ n : Nat, n ≤ 8 ∧ i = .int .i64 n ∧ c = .int .u32 ((bitsC n x : Nat) : Int) ∧ w = wr) (fun _ i _ => (8 - RowKit.intOf i).toNat)
  case atStart =>
    exact ⟨0, by omega, rfl, rfl, rfl⟩
  case round =>
    obtain ⟨n, hn, rfl, rfl, rfl⟩ := hrel
    by_cases hn8 : n < 8
    · have hs := Lib.hid (hsu.out n)
      have hl := hlt.out n
      clear hsu hlt
      generalize bitsC n x = r at *
      have hbit := Lib.hid (show bitC r = if r % 2 = 1 then (r / 2) ^^^ 2197175160 else r / 2 from rfl)
      have ha := Lib.hid (and1_form r (by rw [W_eq] at hl; exact hl))
      go_wp2
      all_goals
        rename_i ho
        rw [ha.out] at ho
        refine ⟨⟨n + 1, by omega, by go_num, ?_, trivial⟩, by simp [RowKit.intOf]; omega⟩
        rw [hs.out, hbit.out]
      · have h1 : r % 2 = 1 := by
          have := bne_iff_ne.mp ho
          omega
        rw [if_pos h1]
        exact congrArg _ (xor_form (r / 2) (by rw [W_eq] at hl; omega))
      · have h1 : ¬ r % 2 = 1 := by
          have := bne_eq_false_iff_eq.mp ho
          omega
        rw [if_neg h1]
        go_num
    · obtain rfl : n = 8 := by omega
      go_wp2
      go_ret
      exact ⟨by rw [he.out]; rfl, rfl⟩

set_option maxRecDepth 100000 in
set_option maxHeartbeats 1000000 in
theorem sum_any (a : Nat) (ha : a < W) (s : ByteArray) (hm : s.size ≤ 4096) (w : World) :
    Calls Try.prog 55 #[.int .u32 ((a : Nat) : Int), .string s] w fun e w' => e = .returned (.int .u32 ((sumC a (bytesC s) : Nat) : Int)) ∧ w = w' := by
  have hall := Lib.hid (regC_all a s)
  rw [W_eq] at ha
  have hz := Lib.hid (regC_zero a s)
  have hn0 := Lib.hid (not_form a (by rw [W_eq]; exact ha))
  go_enter Try.func55, Try.ntmps55
  go_wp2
  go_loopw [5, 11] (fun c i wr => ∃ n : Nat, n ≤ s.size ∧ i = .int .i64 n ∧ c = .int .u32 ((regC a s n : Nat) : Int) ∧ w = wr) (fun _ i _ => (s.size - RowKit.intOf i).toNat)
  case atStart =>
    exact ⟨0, by omega, rfl, by rw [hz.out, hn0.out], rfl⟩
  case round =>
    obtain ⟨n, hn, rfl, rfl, rfl⟩ := hrel
    have hcl := regC_lt a s n
    by_cases hlt : n < s.size
    · have hn2 : ((n : Nat) : Int) < ((s.size : Nat) : Int) := by omega
      have hsc := Lib.hid (regC_succ a s n hlt)
      have hby : s[n].toNat < 256 := UInt8.toNat_lt _
      have hc := Lib.hid (fun w => withbyte_any (regC a s n) s[n].toNat hcl hby w)
      go_wp2_with fail
      refine (hc.out _).mono ?_
      rintro e w1 ⟨rfl, rfl⟩
      go_wp2
      exact ⟨⟨n + 1, by omega, by go_num, by rw [hsc.out], trivial⟩, by simp [RowKit.intOf]; omega⟩
    · obtain rfl : n = s.size := by omega
      go_wp2_with fail
      go_ret
      exact ⟨by rw [← hall.out, ← not_form _ hcl]; rfl, rfl⟩
end Go.Proofs.Ytgolddcmhjdmdaa
namespace Go.Proofs.Ytgolddcmhjdmdaa
open Go.RowKit Go.Sort Cr

/-- Byte j of a sum. -/
def byte4 (c j : Nat) : UInt8 := byteU (c / 2 ^ (8 * j))
theorem fourL_map (c : Nat) : fourL c = (List.range 4).map (byte4 c) := by
  unfold fourL byte4
  simp [List.range_succ]
/-- What lies in memory while the bytes are laid. -/
structure By4 (w wr : World) (c k : Nat) : Prop where
  old : ∀ j, j < 4 → ∃ v, wr.cell? ⟨w.heap.size, j, none⟩ = some v
  fz : ∀ j, wr.frozen? ⟨w.heap.size, j, none⟩ = false
  lo : ∀ j, j < k → wr.cell? ⟨w.heap.size, j, none⟩ = some (.int .u8 (((byte4 c j).toNat : Nat) : Int))
  below : Below w.heap.size w wr
theorem By4.put {w wr : World} {c k : Nat} (h : By4 w wr c k) (hk : k < 4) (x : Int) (hx : x = (((byte4 c k).toNat : Nat) : Int)) :
    By4 w (wr.setCell ⟨w.heap.size, k, none⟩ (.int .u8 x)) c (k + 1) := by
  obtain ⟨u, hu⟩ := h.old k (by omega)
  have far : ∀ j, j ≠ k → (wr.setCell ⟨w.heap.size, k, none⟩ (.int .u8 x)).cell? ⟨w.heap.size, j, none⟩ = wr.cell? ⟨w.heap.size, j, none⟩ := fun j hj => by
    rw [World.cell?_setCell_other]
    intro e; injection e with e1 e2 _; omega
  have same : (wr.setCell ⟨w.heap.size, k, none⟩ (.int .u8 x)).cell? ⟨w.heap.size, k, none⟩ = some (.int .u8 x) := World.cell?_setCell_same _ _ _ hu
  refine ⟨fun j hj => ?_, fun j => by simpa using h.fz j, fun j hj => ?_, h.below.setCell (Nat.le_refl _) _⟩
  · by_cases e : j = k
    · subst e; exact ⟨_, same⟩
    · rw [far j e]; exact h.old j hj
  · by_cases e : j = k
    · subst e; rw [same, hx]
    · rw [far j e]; exact h.lo j (by omega)
theorem rep4 (v : Value) (j : Nat) (hj : j < 4) : (#[v, v, v, v] : Array Value)[j]? = some v := by
  have e : (#[v, v, v, v] : Array Value) = (List.replicate 4 v).toArray := rfl
  rw [e, List.getElem?_toArray, List.getElem?_replicate, if_pos hj]
theorem By4.text {w wr : World} {c : Nat} (h : By4 w wr c 4) :
    (convert 53 9 (.slice (some ⟨w.heap.size, 0, none⟩) 4 4)).run Try.prog wr = .ok (.string (fourT c)) wr := by
  have := run_convert_bytes_back (P := Try.prog) wr 53 9 5 ⟨w.heap.size, 0, none⟩ 4 (fourL c) Try.underlying53 Try.underlying5 Try.underlying9 (fun j hj => by
    have hj2 : j < 4 := hj
    have := h.lo j hj2
    have e : (fourL c)[j]'hj = byte4 c j := by simp [fourL_map]
    rw [e]
    simp only [Addr.add]
    split
    · rename_i h0; subst h0; simpa using this
    · simpa using this)
  exact this
theorem run_slice4 (s : Nat) (W : World) :
    (Instr.sliceAt 106 (.pointer (some ⟨s, 0, none⟩)) none none none).run Try.prog W = .ok (.slice (some ⟨s, 0, none⟩) 4 4) W := by
  have h4 : Try.prog.arrayLen 106 = 4 := by kernel_rfl
  rw [run_sliceAt_array_all (P := Try.prog) W 106 ⟨s, 0, none⟩ (by kernel_rfl), h4]
  have hs : ∀ W, (sizeOf (Try.prog.elem 106)).run Try.prog W = .ok 1 W := fun W => by kernel_rfl
  rw [hs]
  simp [Result.andThen, slicedAt, Addr.add]
theorem cast_div_pow4 (c k : Nat) : ((c : Nat) : Int) / 2 ^ (8 * k) = ((c / 2 ^ (8 * k) : Nat) : Int) := by
  rw [Int.natCast_ediv, Int.natCast_pow]; rfl

set_option maxRecDepth 100000 in
set_option maxHeartbeats 1000000 in
theorem bytes4_any (c : Nat) (_hc : c < W) (w : World) :
    Calls Try.prog 54 #[.int .u32 ((c : Nat) : Int)] w fun e w' => e = .returned (.string (fourT c)) ∧ Below w.heap.size w w' := by
  rw [W_eq] at _hc
  go_enter Try.func54, Try.ntmps54
  go_wp2
  go_loopw [5] (fun i wr => ∃ k : Nat, k ≤ 4 ∧ i = .int .i64 k ∧ By4 w wr c k) (fun i _ => (4 - RowKit.intOf i).toNat)
  case atStart =>
    refine ⟨0, by omega, rfl, ⟨fun j hj => ⟨.int .u8 0, ?_⟩, fun j => by simp [go_sem], fun j hj => by omega, (Below.refl _ _).alloc (Nat.le_refl _) _⟩⟩
    simp only [go_sem]
    exact rep4 _ j hj
  case round =>
    obtain ⟨k, hk, rfl, hS⟩ := hrel
    by_cases hlt : k < 4
    · obtain ⟨v0, t0⟩ := hS.old k (by omega)
      have f0 := hS.fz k
      go_wp2
      refine ⟨⟨k + 1, by omega, by go_num, hS.put hlt _ ?_⟩, by simp [RowKit.intOf]; omega⟩
      rw [cast_div_pow4]
      unfold byte4
      rw [byteU_toNat]
      exact (Int.natCast_emod _ _).symm
    · obtain rfl : k = 4 := by omega
      have htx := hS.text
      have hsl := run_slice4 w.heap.size
      go_wp2
      go_ret
      exact ⟨rfl, hS.below⟩

end Go.Proofs.Ytgolddcmhjdmdaa
