/- The landed Read of a head, and the head that stands in a sector. No condition but a text's size, and the disk's. -/
import Derived.Test.YtgolddcmhjdmdaaZTv
import Derived.Test.YtgolddcmhjdmdaaZVb
namespace Go.Proofs.Ytgolddcmhjdmdaa
open Go.RowKit Go.Sort Cr Wm Go.Lib

theorem rs_end {W0 : World} (w : World) (p : Nat) (st : Option ByteArray) (h : Rs W0 w p st) :
    Calls Try.prog 31 #[.pointer (some ⟨p, 0, none⟩)] w fun e w' => e = .returned (.bool (endB st)) ∧ Rs W0 w' p st ∧ Below w.heap.size w w' := by
  refine (rdEnd_q w p st h.v).mono ?_
  rintro e w' ⟨rfl, hb⟩
  exact ⟨rfl, h.later hb, hb⟩
/-- What bytes are taken apart into. -/
def rd8 (s : ByteArray) : Nat → Option ByteArray
  | 0 => some s
  | k + 1 => rdNext (rd8 s k) 8
def cutH (s : ByteArray) : Hd := ⟨backZ (rdPart (rd8 s 0) 8), backZ (rdPart (rd8 s 1) 8), backZ (rdPart (rd8 s 2) 8), backZ (rdPart (rd8 s 3) 8)⟩
theorem rd8_form (s : ByteArray) : ∀ k, rd8 s k = if 8 * k ≤ s.size then some (s.extract (8 * k) s.size) else none
  | 0 => by
    rw [if_pos (by omega)]
    exact congrArg some (cut_all s s.size rfl).symm
  | k + 1 => by
    show rdNext (rd8 s k) 8 = _
    rw [rd8_form s k]
    by_cases h : 8 * k ≤ s.size
    · rw [if_pos h]
      have z : (s.extract (8 * k) s.size).size = s.size - 8 * k := by rw [ByteArray.size_extract]; omega
      unfold rdNext
      dsimp only
      by_cases h2 : 8 * (k + 1) ≤ s.size
      · rw [if_pos (by omega), if_pos h2, z, ByteArray.extract_extract, show (8 : Int).toNat = 8 from rfl, show 8 * k + 8 = 8 * (k + 1) by omega, show min (8 * k + (s.size - 8 * k)) s.size = s.size by omega]
      · rw [if_neg (by omega), if_neg h2]
    · rw [if_neg h, if_neg (by omega)]
      rfl
theorem end8 (s : ByteArray) : endB (rd8 s 4) = decide (s.size = 32) := by
  rw [rd8_form]
  unfold endB leftN
  by_cases h : 8 * 4 ≤ s.size
  · rw [if_pos h]
    have z : (s.extract (8 * 4) s.size).size = s.size - 32 := by rw [ByteArray.size_extract]; omega
    show (true && decide ((s.extract (8 * 4) s.size).size = 0)) = _
    rw [z, Bool.true_and]
    exact decide_eq_decide.2 (by omega)
  · rw [if_neg h, decide_eq_false (show ¬ s.size = 32 from fun e => h (Nat.le_of_eq e.symm))]
    rfl
theorem cutH_form (s : ByteArray) (h : s.size = 32) : cutH s = ⟨backZ (s.extract 0 8), backZ (s.extract 8 16), backZ (s.extract 16 24), backZ (s.extract 24 32)⟩ := by
  have e : ∀ k, k ≤ 3 → rdPart (rd8 s k) 8 = s.extract (8 * k) (8 * k + 8) := fun k hk => by
    have z : (s.extract (8 * k) s.size).size = s.size - 8 * k := by rw [ByteArray.size_extract]; omega
    rw [rd8_form, if_pos (by omega)]
    unfold rdPart
    dsimp only
    rw [if_pos (by omega), ByteArray.extract_extract, show (8 : Int).toNat = 8 from rfl, Nat.add_zero, show min (8 * k + 8) s.size = 8 * k + 8 by omega]
  unfold cutH
  rw [e 0 (by omega), e 1 (by omega), e 2 (by omega), e 3 (by omega)]
theorem cutH_B (s : ByteArray) (h : s.size = 32) : (cutH s).B = s := by
  have z : ∀ i j, i ≤ j → j ≤ 32 → (s.extract i j).size = j - i := fun i j _ _ => by rw [ByteArray.size_extract]; omega
  rw [cutH_form s h, ← B_parts]
  dsimp only
  rw [ByteArray.empty_append, intB_back 8 8 rfl (by omega) (z 0 8 (by omega) (by omega)), intB_back 8 8 rfl (by omega) (z 8 16 (by omega) (by omega)), intB_back 8 8 rfl (by omega) (z 16 24 (by omega) (by omega)), intB_back 8 8 rfl (by omega) (z 24 32 (by omega) (by omega)),
    cut_join _ _ _ (by omega) (by omega), cut_join _ _ _ (by omega) (by omega), cut_join _ _ _ (by omega) (by omega)]
  exact cut_all _ _ h.symm
theorem headOf_cut (s : ByteArray) : headOf s = if s.size = 32 ∧ (cutH s).good = true then some (cutH s) else none := by
  by_cases h : s.size = 32 ∧ (cutH s).good = true
  · rw [if_pos h]
    have := headOf_B ((Hd.good_iff _).1 h.2)
    rw [cutH_B s h.1] at this
    exact this
  · rw [if_neg h]
    refine headOf_none (fun x hx e => h ?_)
    have hz : s.size = 32 := by rw [← e, Hd.B_size]
    refine ⟨hz, (Hd.good_iff _).2 ?_⟩
    obtain ⟨a, b, c, d⟩ := x.B_cut
    have h1 := hx.t
    have h2 := hx.n
    have h3 := hx.z
    have h4 := hx.q
    rw [cutH_form s hz, ← e, a, b, c, d, backZ_int8 (by omega) (by omega), backZ_int8 (by omega) (by omega), backZ_int8 (by omega) (by omega), backZ_int8 (by omega) (by omega)]
    exact hx
theorem cells_put4 {w : World} {b : Nat} {u0 u1 u2 u3 x y z v : Value} (h0 : w.cell? ⟨b, 0, none⟩ = some u0) (h1 : w.cell? ⟨b, 1, none⟩ = some u1) (h2 : w.cell? ⟨b, 2, none⟩ = some u2) (h3 : w.cell? ⟨b, 3, none⟩ = some u3) :
    ((((w.setCell ⟨b, 0, none⟩ x).setCell ⟨b, 1, none⟩ y).setCell ⟨b, 2, none⟩ z).setCell ⟨b, 3, none⟩ v).cell? ⟨b, 0, none⟩ = some x ∧
    ((((w.setCell ⟨b, 0, none⟩ x).setCell ⟨b, 1, none⟩ y).setCell ⟨b, 2, none⟩ z).setCell ⟨b, 3, none⟩ v).cell? ⟨b, 1, none⟩ = some y ∧
    ((((w.setCell ⟨b, 0, none⟩ x).setCell ⟨b, 1, none⟩ y).setCell ⟨b, 2, none⟩ z).setCell ⟨b, 3, none⟩ v).cell? ⟨b, 2, none⟩ = some z ∧
    ((((w.setCell ⟨b, 0, none⟩ x).setCell ⟨b, 1, none⟩ y).setCell ⟨b, 2, none⟩ z).setCell ⟨b, 3, none⟩ v).cell? ⟨b, 3, none⟩ = some v := by
  have n : ∀ (w : World) (i j : Nat) (v : Value), i ≠ j → (w.setCell ⟨b, i, none⟩ v).cell? ⟨b, j, none⟩ = w.cell? ⟨b, j, none⟩ := fun w i j v hij => World.cell?_setCell_other _ _ _ _ (fun e => by injection e with _ e _; omega)
  obtain ⟨a, c, d⟩ := cells_put3 (x := x) (y := y) (z := z) h0 h1 h2
  exact ⟨by rw [n _ _ _ _ (by omega), a], by rw [n _ _ _ _ (by omega), c], by rw [n _ _ _ _ (by omega), d], World.cell?_setCell_same _ _ _ (by rw [n _ _ _ _ (by omega), n _ _ _ _ (by omega), n _ _ _ _ (by omega)]; exact h3)⟩
theorem below_put4 {w0 w : World} {b : Nat} (hb : w0.heap.size ≤ b) (h : Below w0.heap.size w0 w) (x y z v : Value) :
    Below w0.heap.size w0 ((((w.setCell ⟨b, 0, none⟩ x).setCell ⟨b, 1, none⟩ y).setCell ⟨b, 2, none⟩ z).setCell ⟨b, 3, none⟩ v) := (((h.setCell hb _).setCell hb _).setCell hb _).setCell hb _
set_option maxRecDepth 100000 in
set_option maxHeartbeats 1000000 in
theorem crRead_any (s : ByteArray) (W : World) (hs : s.size ≤ 140737488351232) :
    Calls Try.prog 12 #[.string s] W fun e W' => e = .returned (.tuple #[headA (hdO (headOf s)), .bool (headOf s).isSome]) ∧ Below W.heap.size W W' := by
  have k0 := Lib.hid (fun w => rs_read s w hs)
  have hho := Lib.hid (headOf_cut s)
  have hgd := Lib.hid (fun W => crGood_any (cutH s) W)
  have k5 := Lib.hid (end8 s)
  go_enter Try.func12, Try.ntmps12
  go_wp2_with fail
  refine (k0.out _).mono ?_
  rintro e W1 ⟨p, rfl, R⟩
  have hbx := BoxAt.new W [.int .i64 0, .int .i64 0, .int .i64 0, .int .i64 0] 23
  have hbw : Below W.heap.size W (W.alloc (.cells #[.int .i64 0, .int .i64 0, .int .i64 0, .int .i64 0] 23)) := (Below.refl _ _).alloc (Nat.le_refl _) _
  have hfz : ∀ j, (W.alloc (.cells #[.int .i64 0, .int .i64 0, .int .i64 0, .int .i64 0] 23)).frozen? ⟨W.heap.size, j, none⟩ = false := fun j => by simp [go_sem]
  generalize hW0 : W.alloc (.cells #[.int .i64 0, .int .i64 0, .int .i64 0, .int .i64 0] 23) = W0 at *
  clear hW0
  have k1 := Lib.hid (fun w R => rs_int (W0 := W0) w p (rd8 s 0) 8 R)
  have k2 := Lib.hid (fun w R => rs_int (W0 := W0) w p (rd8 s 1) 8 R)
  have k3 := Lib.hid (fun w R => rs_int (W0 := W0) w p (rd8 s 2) 8 R)
  have k4 := Lib.hid (fun w R => rs_int (W0 := W0) w p (rd8 s 3) 8 R)
  have k6 := Lib.hid (fun w R => rs_end (W0 := W0) w p (rd8 s 4) R)
  rw [show ((sizeK 8 : Nat) : Int) = 8 from rfl, show rdNext (rd8 s 0) 8 = rd8 s 1 from rfl, show backZ (rdPart (rd8 s 0) 8) = (cutH s).t from rfl] at k1
  rw [show ((sizeK 8 : Nat) : Int) = 8 from rfl, show rdNext (rd8 s 1) 8 = rd8 s 2 from rfl, show backZ (rdPart (rd8 s 1) 8) = (cutH s).n from rfl] at k2
  rw [show ((sizeK 8 : Nat) : Int) = 8 from rfl, show rdNext (rd8 s 2) 8 = rd8 s 3 from rfl, show backZ (rdPart (rd8 s 2) 8) = (cutH s).z from rfl] at k3
  rw [show ((sizeK 8 : Nat) : Int) = 8 from rfl, show rdNext (rd8 s 3) 8 = rd8 s 4 from rfl, show backZ (rdPart (rd8 s 3) 8) = (cutH s).q from rfl] at k4
  rw [k5.out] at k6
  rw [show some s = rd8 s 0 from rfl] at R
  unfold headA at hgd
  generalize rd8 s 4 = s4 at *
  generalize rd8 s 3 = s3 at *
  generalize rd8 s 2 = s2 at *
  generalize rd8 s 1 = s1 at *
  generalize rd8 s 0 = s0 at *
  clear k5
  generalize cutH s = c at *
  obtain ⟨t, n, z, q⟩ := c
  dsimp only at k1 k2 k3 k4 hgd
  go_wp2_with fail
  refine (k1.out _ R).mono ?_
  clear k1 R
  rintro e W2 ⟨rfl, R⟩
  go_wp2_with fail
  refine (k2.out _ R).mono ?_
  clear k2 R
  rintro e W3 ⟨rfl, R⟩
  go_wp2_with fail
  refine (k3.out _ R).mono ?_
  clear k3 R
  rintro e W4 ⟨rfl, R⟩
  go_wp2_with fail
  refine (k4.out _ R).mono ?_
  clear k4 R
  rintro e W5 ⟨rfl, R⟩
  have hbh := BoxAt.new W5 [.int .i64 t, .int .i64 n, .int .i64 z, .int .i64 q] 23
  have R6 := R.later ((Below.refl _ _).alloc (Nat.le_refl _) (.cells #[.int .i64 t, .int .i64 n, .int .i64 z, .int .i64 q] 23))
  have hlt5 := (hbx.later R.bel).lt
  have hne : W.heap.size ≠ W5.heap.size := by omega
  clear R
  -- what is there behind either way: the answer's cells, which the end writes
  have ends : ∀ W6, Below W0.heap.size W0 W6 → W6.cell? ⟨W.heap.size, 0, none⟩ = some (.int .i64 0) ∧ W6.cell? ⟨W.heap.size, 1, none⟩ = some (.int .i64 0) ∧ W6.cell? ⟨W.heap.size, 2, none⟩ = some (.int .i64 0) ∧ W6.cell? ⟨W.heap.size, 3, none⟩ = some (.int .i64 0) ∧ (∀ j, W6.frozen? ⟨W.heap.size, j, none⟩ = false) ∧ W.heap.size < W6.heap.size ∧ Below W.heap.size W W6 := fun W6 hb => by
    have b := hbx.later hb
    exact ⟨b.spot 0 _ rfl, b.spot 1 _ rfl, b.spot 2 _ rfl, b.spot 3 _ rfl, fun j => by rw [hb.frozen (p := ⟨W.heap.size, j, none⟩) hbx.lt]; exact hfz j, b.lt, hbw.trans (hb.mono hbw.size)⟩
  replace ends := Lib.hid ends
  clear hbx hfz hbw
  by_cases hz : s.size = 32
  · rw [decide_eq_true hz] at k6
    go_wp2_with fail
    refine (k6.out _ R6).mono ?_
    clear k6
    rintro e W6 ⟨rfl, R, hb⟩
    have hb6 := R.bel
    have hbh6 := hbh.later hb
    have c0 := hbh6.spot 0 _ rfl
    have c1 := hbh6.spot 1 _ rfl
    have c2 := hbh6.spot 2 _ rfl
    have c3 := hbh6.spot 3 _ rfl
    have l6 := hbh6.lt
    clear R R6 hb hbh
    go_wp2_with fail
    refine (hgd.out _).mono ?_
    rintro e W7 ⟨rfl, hb7⟩
    obtain ⟨g0, g1, g2, g3, f, lt, hall⟩ := ends.out W7 (hb6.trans (hb7.mono hb6.size))
    have f0 := f 0
    have f1 := f 1
    have f2 := f 2
    have f3 := f 3
    have hbh7 := hbh6.later hb7
    replace c0 := hbh7.spot 0 _ rfl
    replace c1 := hbh7.spot 1 _ rfl
    replace c2 := hbh7.spot 2 _ rfl
    replace c3 := hbh7.spot 3 _ rfl
    replace l6 := hbh7.lt
    clear hbh6 hbh7 f ends hb6 hb7
    by_cases hg : Hd.good ⟨t, n, z, q⟩ = true
    · have hlf := Lib.hid (show headOf s = some ⟨t, n, z, q⟩ by rw [hho.out, if_pos ⟨hz, hg⟩])
      rw [hg]
      clear hho hg
      go_wp2_with fail
      obtain ⟨h0, h1, h2, h3⟩ := cells_put4 (x := .int .i64 t) (y := .int .i64 n) (z := .int .i64 z) (v := .int .i64 q) g0 g1 g2 g3
      refine bodyPost_ret (v := .tuple #[headA ⟨t, n, z, q⟩, .bool true]) ?_ rfl ⟨by rw [hlf.out]; rfl, below_put4 (Nat.le_refl _) hall _ _ _ _⟩
      simp [results, Try.results12, go_sem, h0, h1, h2, h3, headA]
    · have hlf := Lib.hid (show headOf s = none by rw [hho.out, if_neg (fun h => hg h.2)])
      have hg' : Hd.good ⟨t, n, z, q⟩ = false := by simpa using hg
      rw [hg']
      clear hho hg hg'
      go_wp2_with fail
      obtain ⟨h0, h1, h2, h3⟩ := cells_put4 (x := .int .i64 0) (y := .int .i64 0) (z := .int .i64 0) (v := .int .i64 0) g0 g1 g2 g3
      refine bodyPost_ret (v := .tuple #[headA hd0, .bool false]) ?_ rfl ⟨by rw [hlf.out]; rfl, below_put4 (Nat.le_refl _) hall _ _ _ _⟩
      simp [results, Try.results12, go_sem, h0, h1, h2, h3, headA, hd0]
  · have hlf := Lib.hid (show headOf s = none by rw [hho.out, if_neg (fun h => hz h.1)])
    rw [decide_eq_false hz] at k6
    clear hho
    go_wp2_with fail
    refine (k6.out _ R6).mono ?_
    clear k6
    rintro e W6 ⟨rfl, R, -⟩
    obtain ⟨c0, c1, c2, c3, f, lt, hall⟩ := ends.out W6 R.bel
    have f0 := f 0
    have f1 := f 1
    have f2 := f 2
    have f3 := f 3
    clear R f ends
    go_wp2_with fail
    obtain ⟨g0, g1, g2, g3⟩ := cells_put4 (x := .int .i64 0) (y := .int .i64 0) (z := .int .i64 0) (v := .int .i64 0) c0 c1 c2 c3
    refine bodyPost_ret (v := .tuple #[headA hd0, .bool false]) ?_ rfl ⟨by rw [hlf.out]; rfl, below_put4 (Nat.le_refl _) hall _ _ _ _⟩
    simp [results, Try.results12, go_sem, g0, g1, g2, g3, headA, hd0]
end Go.Proofs.Ytgolddcmhjdmdaa
