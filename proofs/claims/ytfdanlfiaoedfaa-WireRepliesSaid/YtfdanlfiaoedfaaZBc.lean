/- FromBytes: the number of the first sixteen bytes. -/
import Derived.Test.YtfdanlfiaoedfaaZBb
import Derived.Lib.LazyBuf
import Derived.RegionTactic
namespace Go.Proofs.Ytfdanlfiaoedfaa
open Go.RowKit Go.Sort Wm

/-- 'copy(dst, s)', s a string no shorter than dst: dst's length of its bytes go over. -/
theorem run_copy_string_long {P : Program} (w : World) (dT sT ty elem : TypeId) (b o dLen dCap : Nat) (t : ByteArray)
    (hu : P.underlying dT = some (.slice elem)) (hz : ∀ w, (Go.sizeOf elem).run P w = .ok 1 w) (hle : dLen ≤ t.size)
    (hc : ∀ j, j < dLen → (w.cell? ⟨b, o + j, none⟩).isSome = true) (hf : ∀ j, j < dLen → w.frozen? ⟨b, o + j, none⟩ = false) :
    (Builtin.copy_ #[dT, sT] ty #[.slice (some ⟨b, o, none⟩) dLen dCap, .string t]).run P w = .ok (goInt dLen) (w.setCells b o ((t.data.toList.map fun x => Value.int .u8 (x.toNat : Int)).take dLen)) := by
  have hmin : Nat.min t.size dLen = dLen := Nat.min_eq_right hle
  have hl : ((t.data.toList.map fun x => Value.int .u8 (x.toNat : Int)).take dLen).length = dLen := by
    rw [List.length_take, List.length_map, ← Lib.size_eq]; exact Nat.min_eq_left hle
  have hst := run_storeCells_cells (P := P) b o ((t.data.toList.map fun x => Value.int .u8 (x.toNat : Int)).take dLen) 0 w (by rw [hl]; simpa using hc) (by rw [hl]; simpa using hf) (by
    intro v hv
    obtain ⟨x, _, rfl⟩ := List.mem_map.1 (List.mem_of_mem_take hv)
    rfl)
  simp [Builtin.copy_, run_underlying hu, Builtin.lenOf, Builtin.firstCells, hz, hmin]
  rw [hst]
  rfl

/-- The number whose k lowest bytes are f's. -/
def valN (f : Nat → Nat) : Nat → Nat
  | 0 => 0
  | k + 1 => valN f k + f k * 2 ^ (8 * k)
theorem valN_lt (f : Nat → Nat) (hf : ∀ j, f j < 256) : ∀ k, valN f k < 2 ^ (8 * k)
  | 0 => by simp [valN]
  | k + 1 => by
    have h1 := valN_lt f hf k
    have h2 := hf k
    have h3 : (f k + 1) * 2 ^ (8 * k) ≤ 256 * 2 ^ (8 * k) := Nat.mul_le_mul_right _ (by omega)
    rw [Nat.add_mul] at h3
    rw [show 8 * (k + 1) = 8 * k + 8 by omega, Nat.pow_add]
    simp only [valN]
    omega

/-- The bytes of a string, by their places. -/
def byteAt (s : ByteArray) (j : Nat) : Nat := (s.data.toList.getD j 0).toNat
theorem byteAt_lt (s : ByteArray) (j : Nat) : byteAt s j < 256 := UInt8.toNat_lt _
theorem copied_len (s : ByteArray) (hs : 16 ≤ s.size) : ((s.data.toList.map fun x => Value.int .u8 (x.toNat : Int)).take 16).length = 16 := by
  rw [List.length_take, List.length_map, ← Lib.size_eq]; exact Nat.min_eq_left hs
theorem copied_at (s : ByteArray) (hs : 16 ≤ s.size) (j : Nat) (hj : j < ((s.data.toList.map fun x => Value.int .u8 (x.toNat : Int)).take 16).length) :
    ((s.data.toList.map fun x => Value.int .u8 (x.toNat : Int)).take 16)[j] = .int .u8 ((byteAt s j : Nat) : Int) := by
  have hl : j < s.data.toList.length := by
    rw [copied_len s hs] at hj; rw [← Lib.size_eq]; omega
  simp [byteAt, List.getElem_take, List.getD_eq_getElem?_getD, List.getElem?_eq_getElem hl]

theorem size_setCells' (b : Nat) : ∀ (vs : List Value) (o : Nat) (w : World), (w.setCells b o vs).heap.size = w.heap.size
  | [], _, _ => rfl
  | v :: r, o, w => by
    show ((w.setCell ⟨b, o, none⟩ v).setCells b (o + 1) r).heap.size = _
    rw [size_setCells' b r (o + 1), World.size_setCell]
theorem below_setCells {B b : Nat} {a : World} (hb : B ≤ b) : ∀ (vs : List Value) (o : Nat) (w : World), Below B a w → Below B a (w.setCells b o vs)
  | [], _, _, h => h
  | v :: r, o, w, h => below_setCells hb r (o + 1) _ (h.setCell (by exact hb) v)
/-- What lies in memory once the bytes have gone over. -/
structure Fb (w wr : World) (s : ByteArray) : Prop where
  r0 : ∃ v, wr.cell? ⟨w.heap.size, 0, none⟩ = some v
  r1 : ∃ v, wr.cell? ⟨w.heap.size, 1, none⟩ = some v
  f0 : wr.frozen? ⟨w.heap.size, 0, none⟩ = false
  f1 : wr.frozen? ⟨w.heap.size, 1, none⟩ = false
  bytes : ∀ j, j < 16 → wr.cell? ⟨w.heap.size + 1, j, none⟩ = some (.int .u8 ((byteAt s j : Nat) : Int))
  size : w.heap.size + 1 < wr.heap.size
  below : Below w.heap.size w wr
abbrev Wfb (w : World) : World := (w.alloc (.cells #[.int .u64 0, .int .u64 0] 27)).alloc (.cells #[.int .u8 0, .int .u8 0, .int .u8 0, .int .u8 0, .int .u8 0, .int .u8 0, .int .u8 0, .int .u8 0, .int .u8 0, .int .u8 0, .int .u8 0, .int .u8 0, .int .u8 0, .int .u8 0, .int .u8 0, .int .u8 0] 121)
theorem wfb_cell (w : World) (j : Nat) (hj : j < 16) : (Wfb w).cell? ⟨w.heap.size + 1, j, none⟩ = some (.int .u8 0) := by
  simp only [Wfb, go_sem, World.size_alloc]
  exact rep16 _ j hj
theorem wfb_frozen (w : World) (j : Nat) : (Wfb w).frozen? ⟨w.heap.size + 1, j, none⟩ = false := by simp [go_sem]
theorem run_copy16 (w : World) (ty : TypeId) (s : ByteArray) (hs : 16 ≤ s.size) :
    (Builtin.copy_ #[55, 9] ty #[.slice (some ⟨w.heap.size + 1, 0, none⟩) 16 16, .string s]).run Try.prog (Wfb w) = .ok (goInt 16) ((Wfb w).setCells (w.heap.size + 1) 0 ((s.data.toList.map fun x => Value.int .u8 (x.toNat : Int)).take 16)) :=
  run_copy_string_long (Wfb w) 55 9 ty 5 (w.heap.size + 1) 0 16 16 s Try.underlying55 (fun w => by kernel_rfl) hs (fun j hj => by rw [Nat.zero_add, wfb_cell w j hj]; rfl) (fun j _ => by rw [Nat.zero_add]; exact wfb_frozen w j)
theorem fb_start (w : World) (s : ByteArray) (hs : 16 ≤ s.size) : Fb w ((Wfb w).setCells (w.heap.size + 1) 0 ((s.data.toList.map fun x => Value.int .u8 (x.toNat : Int)).take 16)) s := by
  have out : ∀ b j, b ≠ w.heap.size + 1 → ((Wfb w).setCells (w.heap.size + 1) 0 ((s.data.toList.map fun x => Value.int .u8 (x.toNat : Int)).take 16)).cell? ⟨b, j, none⟩ = (Wfb w).cell? ⟨b, j, none⟩ := fun b j hb =>
    World.cell?_setCells_out _ _ _ _ _ (fun e => absurd e hb)
  refine ⟨⟨.int .u64 0, by rw [out _ _ (by omega)]; simp [go_sem]⟩, ⟨.int .u64 0, by rw [out _ _ (by omega)]; simp [go_sem]⟩, by rw [World.frozen?_setCells]; simp [go_sem], by rw [World.frozen?_setCells]; simp [go_sem], fun j hj => ?_, ?_, ?_⟩
  · have hj2 : j < ((s.data.toList.map fun x => Value.int .u8 (x.toNat : Int)).take 16).length := by rw [copied_len s hs]; exact hj
    have := World.cell?_setCells_in (w.heap.size + 1) _ 0 (Wfb w) (fun i hi => by rw [copied_len s hs] at hi; rw [Nat.zero_add, wfb_cell w i hi]; rfl) j hj2
    rw [Nat.zero_add] at this
    rw [this, copied_at s hs j hj2]
  · rw [size_setCells']; simp
  · exact below_setCells (by omega) _ _ _ (((Below.refl _ _).alloc (Nat.le_refl _) _).alloc (by simp) _)

theorem Fb.later {w wr w2 : World} {s : ByteArray} (h : Fb w wr s) (hb : Below wr.heap.size wr w2) : Fb w w2 s :=
  have hs := h.size
  have c1 : ∀ j, w2.cell? ⟨w.heap.size, j, none⟩ = wr.cell? ⟨w.heap.size, j, none⟩ := fun j => hb.cell (by show w.heap.size < _; omega)
  have f1 : ∀ j, w2.frozen? ⟨w.heap.size, j, none⟩ = wr.frozen? ⟨w.heap.size, j, none⟩ := fun j => hb.frozen (by show w.heap.size < _; omega)
  have c2 : ∀ j, w2.cell? ⟨w.heap.size + 1, j, none⟩ = wr.cell? ⟨w.heap.size + 1, j, none⟩ := fun j => hb.cell (by show w.heap.size + 1 < _; omega)
  ⟨by rw [c1]; exact h.r0, by rw [c1]; exact h.r1, by rw [f1]; exact h.f0, by rw [f1]; exact h.f1, fun j hj => by rw [c2]; exact h.bytes j hj, Nat.lt_of_lt_of_le h.size hb.size, h.below.trans (hb.mono (by omega))⟩
/-- .. and the number that is gathered, in a block behind. -/
structure Fg (w wr : World) (s : ByteArray) (g x y : Nat) : Prop where
  fb : Fb w wr s
  a0 : wr.cell? ⟨g, 0, none⟩ = some (.int .u64 ((x : Nat) : Int))
  a1 : wr.cell? ⟨g, 1, none⟩ = some (.int .u64 ((y : Nat) : Int))
  g0 : wr.frozen? ⟨g, 0, none⟩ = false
  g1 : wr.frozen? ⟨g, 1, none⟩ = false
  far : w.heap.size + 1 < g

theorem Fg.drew {w wr : World} {s : ByteArray} {g x y : Nat} (h : Fg w wr s g x y) : Fg w wr.drew s g x y :=
  ⟨h.fb.later ((Below.refl _ _).drew), h.a0, h.a1, h.g0, h.g1, h.far⟩
theorem cell_set_far {W : World} {b p c j : Nat} {x : Value} (h : c ≠ b ∨ j ≠ p) : (W.setCell ⟨b, p, none⟩ x).cell? ⟨c, j, none⟩ = W.cell? ⟨c, j, none⟩ := by
  rw [World.cell?_setCell_other]
  intro e; injection e with e1 e2 _; omega
theorem Fb.put {w wr : World} {s : ByteArray} {g j : Nat} (h : Fb w wr s) (hg : w.heap.size + 1 < g) (v : Value) : Fb w (wr.setCell ⟨g, j, none⟩ v) s :=
  ⟨by rw [cell_set_far (by omega)]; exact h.r0, by rw [cell_set_far (by omega)]; exact h.r1, by simpa using h.f0, by simpa using h.f1, fun i hi => by rw [cell_set_far (by omega)]; exact h.bytes i hi, by simpa using h.size, h.below.setCell (by show _ ≤ g; omega) _⟩
theorem Fg.put1 {w wr : World} {s : ByteArray} {g x y z : Nat} (h : Fg w wr s g x y) : Fg w (wr.setCell ⟨g, 1, none⟩ (.int .u64 ((z : Nat) : Int))) s g x z :=
  ⟨h.fb.put h.far _, by rw [cell_set_far (by omega)]; exact h.a0, World.cell?_setCell_same _ _ _ h.a1, by simpa using h.g0, by simpa using h.g1, h.far⟩
theorem Fg.put0 {w wr : World} {s : ByteArray} {g x y z : Nat} (h : Fg w wr s g x y) : Fg w (wr.setCell ⟨g, 0, none⟩ (.int .u64 ((z : Nat) : Int))) s g z y :=
  ⟨h.fb.put h.far _, World.cell?_setCell_same _ _ _ h.a0, by rw [cell_set_far (by omega)]; exact h.a1, by simpa using h.g0, by simpa using h.g1, h.far⟩
theorem or_step (v x k : Nat) (hv : v < 2 ^ (8 * k)) (hx : x < 256) (hk : k < 8) : bits .or .u64 ((v : Nat) : Int) (IntKind.u64.wrap (((x : Nat) : Int) * 2 ^ (8 * k))) = ((v + x * 2 ^ (8 * k) : Nat) : Int) := by
  have h1 : 2 ^ (8 * k) ≤ 2 ^ 56 := Nat.pow_le_pow_right (by omega) (by omega)
  have h3 : x * 2 ^ (8 * k) ≤ 255 * 2 ^ (8 * k) := Nat.mul_le_mul_right _ (by omega)
  have h4 : x * 2 ^ (8 * k) < 18446744073709551616 := by omega
  have e1 : ((x : Nat) : Int) * 2 ^ (8 * k) = ((x * 2 ^ (8 * k) : Nat) : Int) := by rw [Int.natCast_mul, Int.natCast_pow]; rfl
  rw [e1, wrap_u64_small _ h4, bits_or_u64_nat _ _ (by omega) h4, Nat.or_comm, Nat.mul_comm, ← Nat.two_pow_add_eq_or_of_lt hv, Nat.add_comm]

set_option maxRecDepth 100000 in
set_option maxHeartbeats 1000000 in
theorem frombytes_long (s : ByteArray) (hs : 16 ≤ s.size) (w : World) :
    Calls Try.prog 79 #[.string s] w fun e w' => e = .returned (.tuple #[.agg #[.int .u64 ((valN (fun j => byteAt s (8 + j)) 8 : Nat) : Int), .int .u64 ((valN (byteAt s) 8 : Nat) : Int)], .bool true]) ∧ Below w.heap.size w w' := by
  have hsl := fun W => run_slice16 (w.heap.size + 1) W
  have hcp := fun ty => run_copy16 w ty s hs
  go_enter Try.func79, Try.ntmps79
  go_wp2
  have hF := fb_start w s hs
  generalize (Wfb w).setCells (w.heap.size + 1) 0 ((s.data.toList.map fun x => Value.int .u8 (x.toNat : Int)).take 16) = wf at *
  clear hsl hcp
  go_wp2
  go_loopw [12] (fun i wr => ∃ k : Nat, k ≤ 8 ∧ i = .int .i64 k ∧ Fg w wr s wf.heap.size (valN (fun j => byteAt s (8 + j)) k) (valN (byteAt s) k)) (fun i _ => (8 - RowKit.intOf i).toNat)
  case atStart =>
    have hal : Below wf.heap.size wf (wf.alloc (.cells #[.int .u64 0, .int .u64 0] 27)) := (Below.refl _ _).alloc (Nat.le_refl _) _
    exact ⟨0, by omega, rfl, hF.later hal, by simp [go_sem, valN], by simp [go_sem, valN], by simp [go_sem], by simp [go_sem], hF.size⟩
  case round =>
    clear hF
    obtain ⟨k, hk, rfl, hG⟩ := hrel
    by_cases hlt : k < 8
    · have ta0 := hG.a0
      have ta1 := hG.a1
      have tg0 := hG.g0
      have tg1 := hG.g1
      have tb0 := hG.fb.bytes k (by omega)
      have tb1 := hG.fb.bytes (8 + k) (by omega)
      have l0 := byteAt_lt s k
      have l1 := byteAt_lt s (8 + k)
      have hlt' : ((k : Nat) : Int) < 8 := by omega
      have e0 := Lib.hid (or_step (valN (byteAt s) k) (byteAt s k) k (valN_lt _ (byteAt_lt s) k) l0 hlt)
      have e1 := Lib.hid (or_step (valN (fun j => byteAt s (8 + j)) k) (byteAt s (8 + k)) k (valN_lt _ (fun j => byteAt_lt s (8 + j)) k) l1 hlt)
      go_wp2
      go_region
      rw [e0.out]
      replace hG := (hG.put1 (z := valN (byteAt s) (k + 1))).drew
      go_wp2
      go_region
      rw [e1.out]
      replace hG := (hG.put0 (z := valN (fun j => byteAt s (8 + j)) (k + 1))).drew
      go_wp2
      refine ⟨⟨k + 1, by omega, by go_num, hG⟩, by simp [RowKit.intOf]; omega⟩
    · obtain rfl : k = 8 := by omega
      obtain ⟨v0, tr0⟩ := hG.fb.r0
      obtain ⟨v1, tr1⟩ := hG.fb.r1
      have tf0 := hG.fb.f0
      have tf1 := hG.fb.f1
      have ta0 := hG.a0
      have ta1 := hG.a1
      go_wp2
      refine bodyPost_ret (v := .tuple #[.agg #[.int .u64 ((valN (fun j => byteAt s (8 + j)) 8 : Nat) : Int), .int .u64 ((valN (byteAt s) 8 : Nat) : Int)], .bool true]) ?_ rfl ?_
      · simp [results, Try.results79, go_sem, cell_put0 tr0 tr1, cell_put1 tr0 tr1]
      · exact ⟨rfl, bl_put hG.fb.below (Nat.le_refl _)⟩
theorem run_copy16s (w : World) (ty : TypeId) (s : ByteArray) (hs : s.size ≤ 16) :
    (Builtin.copy_ #[55, 9] ty #[.slice (some ⟨w.heap.size + 1, 0, none⟩) 16 16, .string s]).run Try.prog (Wfb w) = .ok (goInt s.size) ((Wfb w).setCells (w.heap.size + 1) 0 (s.data.toList.map fun x => Value.int .u8 (x.toNat : Int))) :=
  Go.run_copy_string (Wfb w) 55 9 ty 5 (w.heap.size + 1) 0 16 16 s Try.underlying55 (fun w => by kernel_rfl) hs (fun j hj => by rw [Nat.zero_add, wfb_cell w j (by omega)]; rfl) (fun j _ => by rw [Nat.zero_add]; exact wfb_frozen w j)
/-- A result's cells in a world where only the bytes' own block has turned. -/
structure Fz (w wr : World) : Prop where
  r0 : ∃ v, wr.cell? ⟨w.heap.size, 0, none⟩ = some v
  r1 : ∃ v, wr.cell? ⟨w.heap.size, 1, none⟩ = some v
  f0 : wr.frozen? ⟨w.heap.size, 0, none⟩ = false
  f1 : wr.frozen? ⟨w.heap.size, 1, none⟩ = false
  below : Below w.heap.size w wr
theorem fz_start (w : World) (L : List Value) : Fz w ((Wfb w).setCells (w.heap.size + 1) 0 L) := by
  have out : ∀ b j, b ≠ w.heap.size + 1 → ((Wfb w).setCells (w.heap.size + 1) 0 L).cell? ⟨b, j, none⟩ = (Wfb w).cell? ⟨b, j, none⟩ := fun b j hb =>
    World.cell?_setCells_out _ _ _ _ _ (fun e => absurd e hb)
  exact ⟨⟨.int .u64 0, by rw [out _ _ (by omega)]; simp [go_sem]⟩, ⟨.int .u64 0, by rw [out _ _ (by omega)]; simp [go_sem]⟩, by rw [World.frozen?_setCells]; simp [go_sem], by rw [World.frozen?_setCells]; simp [go_sem],
    below_setCells (by omega) _ _ _ (((Below.refl _ _).alloc (Nat.le_refl _) _).alloc (by simp) _)⟩
set_option maxRecDepth 100000 in
set_option maxHeartbeats 1000000 in
theorem frombytes_short (s : ByteArray) (hs : s.size < 16) (w : World) :
    Calls Try.prog 79 #[.string s] w fun e w' => e = .returned (.tuple #[.agg #[.int .u64 0, .int .u64 0], .bool false]) ∧ Below w.heap.size w w' := by
  have hsl := fun W => run_slice16 (w.heap.size + 1) W
  have hcp := fun ty => run_copy16s w ty s (by omega)
  go_enter Try.func79, Try.ntmps79
  have hF := fz_start w (s.data.toList.map fun x => Value.int .u8 (x.toNat : Int))
  obtain ⟨v0, tr0⟩ := hF.r0
  obtain ⟨v1, tr1⟩ := hF.r1
  have tf0 := hF.f0
  have tf1 := hF.f1
  have hFb := Lib.hid hF.below
  clear hF
  generalize (Wfb w).setCells (w.heap.size + 1) 0 (s.data.toList.map fun x => Value.int .u8 (x.toNat : Int)) = wf at *
  go_wp2
  refine bodyPost_ret (v := .tuple #[.agg #[.int .u64 0, .int .u64 0], .bool false]) ?_ rfl ?_
  · simp [results, Try.results79, go_sem, cell_put0 tr0 tr1, cell_put1 tr0 tr1]
  · exact ⟨rfl, bl_put hFb.out (Nat.le_refl _)⟩

/-- The bytes of a number, read again. -/
theorem valN_bytes (n : Nat) : ∀ k, k ≤ 8 → valN (fun j => (byteN n j).toNat) k = loN n % 2 ^ (8 * k)
  | 0, _ => by simp [valN]; omega
  | k + 1, h => by
    simp only [valN]
    rw [valN_bytes n k (by omega), ← byteN_lo n k (by omega), show 8 * (k + 1) = 8 * k + 8 by omega, Nat.pow_add, Nat.mod_mul, Nat.mul_comm (_ % 256)]
theorem valN_bytes_hi (n : Nat) : ∀ k, k ≤ 8 → valN (fun j => (byteN n (8 + j)).toNat) k = hiN n % 2 ^ (8 * k)
  | 0, _ => by simp [valN]; omega
  | k + 1, h => by
    simp only [valN]
    rw [valN_bytes_hi n k (by omega), ← byteN_hi n k, show 8 * (k + 1) = 8 * k + 8 by omega, Nat.pow_add, Nat.mod_mul, Nat.mul_comm (_ % 256)]
theorem valN_congr (f g : Nat → Nat) : ∀ k, (∀ j, j < k → f j = g j) → valN f k = valN g k
  | 0, _ => rfl
  | k + 1, h => by simp only [valN]; rw [valN_congr f g k (fun j hj => h j (by omega)), h k (by omega)]
theorem byteAt_bytes (n : Nat) (more : ByteArray) (j : Nat) (hj : j < 16) : byteAt ((⟨(bytesL n).toArray⟩ : ByteArray) ++ more) j = (byteN n j).toNat := by
  unfold byteAt
  rw [ByteArray.data_append, Array.toList_append]
  show (((bytesL n) ++ more.data.toList).getD j 0).toNat = _
  rw [List.getD_eq_getElem?_getD, List.getElem?_append_left (by rw [bytesL_length]; exact hj), List.getElem?_eq_getElem (by rw [bytesL_length]; exact hj)]
  simp [bytesL]
theorem frombytes_again (n : Nat) (hn : n < big) (more : ByteArray) (w : World) :
    Calls Try.prog 79 #[.string ((⟨(bytesL n).toArray⟩ : ByteArray) ++ more)] w fun e w' => e = .returned (.tuple #[numV n, .bool true]) ∧ Below w.heap.size w w' := by
  have h := frombytes_long ((⟨(bytesL n).toArray⟩ : ByteArray) ++ more) (by rw [ByteArray.size_append]; show 16 ≤ (bytesL n).toArray.size + _; simp [bytesL_length]) w
  rw [valN_congr (byteAt _) (fun j => (byteN n j).toNat) 8 (fun j hj => byteAt_bytes n more j (by omega)), valN_congr (fun j => byteAt _ (8 + j)) (fun j => (byteN n (8 + j)).toNat) 8 (fun j hj => byteAt_bytes n more (8 + j) (by omega)), valN_bytes n 8 (by omega), valN_bytes_hi n 8 (by omega)] at h
  have e1 : loN n % 2 ^ (8 * 8) = loN n := Nat.mod_eq_of_lt (by have := loN_lt n; simpa using this)
  have e2 : hiN n % 2 ^ (8 * 8) = hiN n := Nat.mod_eq_of_lt (by have := hiN_lt hn; simpa using this)
  rw [e1, e2] at h
  exact h
end Go.Proofs.Ytfdanlfiaoedfaa
