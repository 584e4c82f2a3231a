/- Show: decimal digits. -/
import Derived.Test.YtddjogbenfkcpaaDoorWc
import Derived.Laws.IdiomStrings
namespace Go.Proofs.YtddjogbenfkcpaaDoor
open Go.RowKit Go.Sort Wm

/-- What lies in memory while the digits are gathered: the number that is left, and the digits so far. -/
structure Sh (w wr : World) (n x k : Nat) : Prop where
  c0 : wr.cell? ⟨w.heap.size, 0, none⟩ = some (.int .u64 ((hiN x : Nat) : Int))
  c1 : wr.cell? ⟨w.heap.size, 1, none⟩ = some (.int .u64 ((loN x : Nat) : Int))
  g0 : wr.frozen? ⟨w.heap.size, 0, none⟩ = false
  g1 : wr.frozen? ⟨w.heap.size, 1, none⟩ = false
  old : ∀ j, j < 39 → ∃ v, wr.cell? ⟨w.heap.size + 1, j, none⟩ = some v
  fz : ∀ j, wr.frozen? ⟨w.heap.size + 1, j, none⟩ = false
  dig : ∀ j (h : j < (decN k n).length), wr.cell? ⟨w.heap.size + 1, 39 - k + j, none⟩ = some (.int .u8 (((decN k n)[j].toNat : Nat) : Int))
  size : w.heap.size + 1 < wr.heap.size
  below : Below w.heap.size w wr
theorem Sh.later {w wr w2 : World} {n x k : Nat} (h : Sh w wr n x k) (hb : Below wr.heap.size wr w2) : Sh w w2 n x k :=
  have hs := h.size
  have c1 : ∀ j, w2.cell? ⟨w.heap.size, j, none⟩ = wr.cell? ⟨w.heap.size, j, none⟩ := fun j => hb.cell (by show w.heap.size < _; omega)
  have f1 : ∀ j, w2.frozen? ⟨w.heap.size, j, none⟩ = wr.frozen? ⟨w.heap.size, j, none⟩ := fun j => hb.frozen (by show w.heap.size < _; omega)
  have c2 : ∀ j, w2.cell? ⟨w.heap.size + 1, j, none⟩ = wr.cell? ⟨w.heap.size + 1, j, none⟩ := fun j => hb.cell (by show w.heap.size + 1 < _; omega)
  have f2 : ∀ j, w2.frozen? ⟨w.heap.size + 1, j, none⟩ = wr.frozen? ⟨w.heap.size + 1, j, none⟩ := fun j => hb.frozen (by show w.heap.size + 1 < _; omega)
  ⟨by rw [c1]; exact h.c0, by rw [c1]; exact h.c1, by rw [f1]; exact h.g0, by rw [f1]; exact h.g1, fun j hj => by rw [c2]; exact h.old j hj, fun j => by rw [f2]; exact h.fz j, fun j hj => by rw [c2]; exact h.dig j hj, Nat.lt_of_lt_of_le h.size hb.size, h.below.trans (hb.mono (by omega))⟩

/-- One digit more. -/
theorem Sh.digit {w wr : World} {n x k p : Nat} (h : Sh w wr n x k) (hp : p + 1 + k = 39) (d : Int) (hd : d = (((digB (restN n k)).toNat : Nat) : Int)) :
    Sh w (wr.setCell ⟨w.heap.size + 1, p, none⟩ (.int .u8 d)) n x (k + 1) := by
  obtain ⟨v, hv⟩ := h.old p (by omega)
  have far : ∀ b j, (b ≠ w.heap.size + 1 ∨ j ≠ p) → (wr.setCell ⟨w.heap.size + 1, p, none⟩ (.int .u8 d)).cell? ⟨b, j, none⟩ = wr.cell? ⟨b, j, none⟩ := fun b j hbj => by
    rw [World.cell?_setCell_other]
    intro e
    injection e with e1 e2 _
    omega
  have near : (wr.setCell ⟨w.heap.size + 1, p, none⟩ (.int .u8 d)).cell? ⟨w.heap.size + 1, p, none⟩ = some (.int .u8 d) := World.cell?_setCell_same _ _ _ hv
  refine ⟨by rw [far _ _ (by omega)]; exact h.c0, by rw [far _ _ (by omega)]; exact h.c1, by simpa using h.g0, by simpa using h.g1, fun j hj => ?_, fun j => by simpa using h.fz j, fun j hj => ?_, by simpa using h.size, h.below.setCell (by show _ ≤ w.heap.size + 1; omega) _⟩
  · by_cases e : j = p
    · subst e; exact ⟨_, near⟩
    · rw [far _ _ (by omega)]; exact h.old j hj
  · cases j with
    | zero =>
      rw [show 39 - (k + 1) + 0 = p by omega, near, hd]; rfl
    | succ j =>
      have hj' : j < (decN k n).length := by rw [decN_succ] at hj; simpa using hj
      rw [far _ _ (by omega), show 39 - (k + 1) + (j + 1) = 39 - k + j by omega]
      exact h.dig j hj'
/-- The number that is left takes the place of the one ahead of it. -/
theorem Sh.rest {w wr : World} {n x y k : Nat} (h : Sh w wr n x k) : Sh w ((wr.setCell ⟨w.heap.size, 0, none⟩ (.int .u64 ((hiN y : Nat) : Int))).setCell ⟨w.heap.size, 1, none⟩ (.int .u64 ((loN y : Nat) : Int))) n y k := by
  have far : ∀ j, ((wr.setCell ⟨w.heap.size, 0, none⟩ (.int .u64 ((hiN y : Nat) : Int))).setCell ⟨w.heap.size, 1, none⟩ (.int .u64 ((loN y : Nat) : Int))).cell? ⟨w.heap.size + 1, j, none⟩ = wr.cell? ⟨w.heap.size + 1, j, none⟩ := fun j => cell_put_far (by omega)
  exact ⟨cell_put0 h.c0 h.c1, cell_put1 h.c0 h.c1, by simpa using h.g0, by simpa using h.g1, fun j hj => by rw [far]; exact h.old j hj, fun j => by simpa using h.fz j, fun j hj => by rw [far]; exact h.dig j hj, by simpa using h.size, bl_put h.below (Nat.le_refl _)⟩
theorem rep39 (v : Value) (j : Nat) (hj : j < 39) : (#[v, v, v, v, v, v, v, v, v, v, v, v, v, v, v, v, v, v, v, v, v, v, v, v, v, v, v, v, v, v, v, v, v, v, v, v, v, v, v] : Array Value)[j]? = some v := by
  have e : (#[v, v, v, v, v, v, v, v, v, v, v, v, v, v, v, v, v, v, v, v, v, v, v, v, v, v, v, v, v, v, v, v, v, v, v, v, v, v, v] : Array Value) = (List.replicate 39 v).toArray := rfl
  rw [e, List.getElem?_toArray, List.getElem?_replicate, if_pos hj]
theorem run_slice39 (s p : Nat) (hp : p < 39) (W : World) :
    (Instr.sliceAt 51 (.pointer (some ⟨s, 0, none⟩)) (some (.int .i64 ((p : Nat) : Int))) none none).run Tryd.prog W = .ok (.slice (some ⟨s, p, none⟩) (39 - p) (39 - p)) W := by
  have h39 : Tryd.prog.arrayLen 51 = 39 := by kernel_rfl
  rw [run_sliceAt_array_l (P := Tryd.prog) W 51 ⟨s, 0, none⟩ (by kernel_rfl) .i64 (p : Int) (by omega) (by rw [h39]; omega), h39]
  have hs : ∀ W, (sizeOf (Tryd.prog.elem 51)).run Tryd.prog W = .ok 1 W := fun W => by kernel_rfl
  rw [hs]
  simp only [Result.andThen, slicedAt, Int.toNat_natCast, Nat.mul_one]
  rw [if_neg (by omega)]
  simp only [Addr.add]
  split
  · rename_i h0; subst h0; rfl
  · simp
/-- The digits as a string. -/
theorem Sh.text {w wr : World} {n x k p : Nat} (h : Sh w wr n x k) (hp : p + k = 39) :
    (convert 50 9 (.slice (some ⟨w.heap.size + 1, p, none⟩) (39 - p) (39 - p))).run Tryd.prog wr = .ok (.string ⟨(decN k n).toArray⟩) wr := by
  have e : 39 - p = (decN k n).length := by rw [decN_length]; omega
  have := run_convert_bytes_back (P := Tryd.prog) wr 50 9 5 ⟨w.heap.size + 1, p, none⟩ (39 - p) (decN k n) Tryd.underlying50 Tryd.underlying5 Tryd.underlying9 (fun j hj => by
    have := h.dig j hj
    rw [show 39 - k = p by omega] at this
    simp only [Addr.add]
    split
    · rename_i h0; subst h0; simpa using this
    · exact this)
  rw [← e] at this
  exact this

set_option maxRecDepth 100000 in
set_option maxHeartbeats 1000000 in
theorem show_any (n : Nat) (hn : n < big) (w : World) :
    Calls Tryd.prog 23 #[numV n] w fun e w' => e = .returned (.string (showN n)) ∧ Below w.heap.size w w' := by
  go_enter Tryd.func23, Tryd.ntmps23
  go_wp2
  go_loopw [4] (fun i wr => ∃ k m : Nat, m + k = 39 ∧ i = .int .i64 m ∧ (k = 0 ∨ restN n k ≠ 0) ∧ Sh w wr n (restN n k) k) (fun i _ => (intOf i).toNat)
  case atStart =>
    refine ⟨0, 39, rfl, rfl, Or.inl rfl, ?_⟩
    rw [restN_zero]
    have hbl : ∀ A B : Obj, Below w.heap.size w ((w.alloc A).alloc B) := fun A B => ((Below.refl _ _).alloc (Nat.le_refl _) _).alloc (by simp) _
    refine ⟨by simp [go_sem], by simp [go_sem], by simp [go_sem], by simp [go_sem], fun j hj => ?_, fun j => by simp [go_sem], fun j hj => by simp [decN] at hj, by simp, hbl _ _⟩
    refine ⟨.int .u8 0, ?_⟩
    simp only [go_sem, World.size_alloc]
    exact rep39 _ j hj
  case round =>
    obtain ⟨k, m, hmk, rfl, hpos, hS⟩ := hrel
    obtain ⟨p, rfl⟩ : ∃ p, m = p + 1 := ⟨m - 1, by have : k < 39 := (by rcases hpos with h | h; omega; exact restN_pos hn h); omega⟩
    have tc0 := hS.c0
    have tc1 := hS.c1
    have ht := Lib.hid (fun w => tenth_any (restN n k) (restN_lt hn) w)
    go_wp2_with fail
    refine (ht.out _).mono ?_
    rintro e w1 ⟨rfl, hw1⟩
    rw [restN_succ]
    replace hS := hS.later hw1
    clear hw1 tc0 tc1 ht
    obtain ⟨v, tv⟩ := hS.old p (by omega)
    have tf := hS.fz p
    have hsz := hS.size
    go_wp2_with fail
    have hz := zero_any (restN n (k + 1))
    have hS2 := (hS.digit hmk (48 + ((restN n k : Nat) : Int) % 10) (by rw [digB_toNat]; omega))
    have hS3 := hS2.later ((Below.refl _ _).alloc (Nat.le_refl _) (.cells #[.int .u64 ((hiN (restN n (k + 1)) : Nat) : Int), .int .u64 ((loN (restN n (k + 1)) : Nat) : Int)] 24))
    by_cases hend : restN n (k + 1) = 0
    · rw [decide_eq_true hend] at hz
      have Hz := Lib.hid hz
      clear hz
      refine (Hz.out _).mono ?_
      rintro e w5 ⟨rfl, hw5⟩
      replace hS3 := hS3.later hw5
      have hk := ndN_stop hn hend hpos
      have htx := hS3.text (p := p) (by omega)
      rw [← hk] at htx
      replace hend := Lib.hid hend
      replace hk := Lib.hid hk
      have hsl := run_slice39 (w.heap.size + 1) p (by omega)
      have hp2 := Lib.hid hmk
      clear hS2 hw5 hmk
      go_wp2
      go_ret
      exact ⟨rfl, hS3.below⟩
    · rw [decide_eq_false hend] at hz
      have Hz := Lib.hid hz
      clear hz
      refine (Hz.out _).mono ?_
      rintro e w5 ⟨rfl, hw5⟩
      have r0 : w5.cell? ⟨w1.heap.size, 0, none⟩ = some (.int .u64 ((hiN (restN n (k + 1)) : Nat) : Int)) := by
        rw [hw5.cell (by simp)]; simp [go_sem]
      have r1 : w5.cell? ⟨w1.heap.size, 1, none⟩ = some (.int .u64 ((loN (restN n (k + 1)) : Nat) : Int)) := by
        rw [hw5.cell (by simp)]; simp [go_sem]
      replace hS3 := hS3.later hw5
      clear hw5 hS2
      have b0 := hS3.c0
      have b1 := hS3.c1
      have g0 := hS3.g0
      have g1 := hS3.g1
      go_wp2
      exact ⟨⟨k + 1, p, by omega, rfl, Or.inr hend, hS3.rest⟩, by simp [intOf]⟩
end Go.Proofs.YtddjogbenfkcpaaDoor
