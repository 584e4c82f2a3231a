/- The document's bytes of a head walked; CrownBytes' and CrownReads' walks, out of the landed contracts. -/
import Derived.Test.YtgolddcmhjdmdaaZUb
namespace Go.Proofs.Ytgolddcmhjdmdaa
open Go.RowKit Go.Sort Cr

set_option maxRecDepth 100000 in
set_option maxHeartbeats 1000000 in
theorem refbytesH_any (h : Hd) (w : World) : Calls Try.prog 32 #[.int .i64 h.t, .int .i64 h.n, .int .i64 h.z, .int .i64 h.q] w fun e w' => e = .returned (.string h.B) ∧ Below w.heap.size w w' := by
  have c1 := Lib.hid (refint_any 8 h.t)
  have c2 := Lib.hid (refint_any 8 h.n)
  have c3 := Lib.hid (refint_any 8 h.z)
  have c4 := Lib.hid (refint_any 8 h.q)
  have hB := Lib.hid (show h.B = intB 8 h.t ++ intB 8 h.n ++ intB 8 h.z ++ intB 8 h.q by unfold Hd.B; simp only [ByteArray.append_assoc])
  have s1 := int8_size h.t
  have s2 := int8_size h.n
  have s3 := int8_size h.z
  have s4 := int8_size h.q
  have q1 : (intB 8 h.t ++ intB 8 h.n).size = 16 := by rw [ByteArray.size_append]; omega
  have q2 : (intB 8 h.t ++ intB 8 h.n ++ intB 8 h.z).size = 24 := by rw [ByteArray.size_append]; omega
  rw [hB.out]
  generalize intB 8 h.t = b1 at *
  generalize intB 8 h.n = b2 at *
  generalize intB 8 h.z = b3 at *
  generalize intB 8 h.q = b4 at *
  go_enter Try.func32, Try.ntmps32
  go_wp2_with fail
  refine (c1.out _).mono ?_
  rintro e w1 ⟨rfl, hb⟩
  go_wp2_with fail
  refine (c2.out _).mono ?_
  rintro e w2 ⟨rfl, hb2⟩
  replace hb := hb.trans (hb2.mono hb.size)
  go_wp2_with fail
  refine (c3.out _).mono ?_
  rintro e w3 ⟨rfl, hb3⟩
  replace hb := hb.trans (hb3.mono hb.size)
  go_wp2_with fail
  refine (c4.out _).mono ?_
  rintro e w4 ⟨rfl, hb4⟩
  replace hb := hb.trans (hb4.mono hb.size)
  clear hb2 hb3 hb4
  go_wp2
  go_ret
  exact ⟨by first | rfl | simp, hb⟩
set_option maxRecDepth 100000 in
set_option maxHeartbeats 1000000 in
theorem lawgood_any (h : Hd) (hi : h.In) (w : World) : Calls Try.prog 11 #[headA h] w fun e w' => e = .returned (.bool h.good) ∧ Below w.heap.size w w' := by
  have c1 := Lib.hid (refgoodH_any h hi)
  have hba : Below w.heap.size w (w.alloc (.cells #[.int .i64 h.t, .int .i64 h.n, .int .i64 h.z, .int .i64 h.q] 23)) := (Below.refl _ _).alloc (Nat.le_refl _) _
  unfold headA
  obtain ⟨t, n, z, q⟩ := h
  go_enter Try.func11, Try.ntmps11
  go_wp2_with fail
  refine (c1.out _).mono ?_
  rintro e w1 ⟨rfl, rfl⟩
  go_wp2
  go_ret
  exact ⟨rfl, hba⟩
set_option maxRecDepth 100000 in
set_option maxHeartbeats 1000000 in
theorem lawbytes_any (h : Hd) (w : World) : Calls Try.prog 13 #[headA h] w fun e w' => e = .returned (.string h.B) ∧ Below w.heap.size w w' := by
  have c1 := Lib.hid (refbytesH_any h)
  have hba : Below w.heap.size w (w.alloc (.cells #[.int .i64 h.t, .int .i64 h.n, .int .i64 h.z, .int .i64 h.q] 23)) := (Below.refl _ _).alloc (Nat.le_refl _) _
  unfold headA
  obtain ⟨t, n, z, q⟩ := h
  go_enter Try.func13, Try.ntmps13
  go_wp2_with fail
  refine (c1.out _).mono ?_
  rintro e w1 ⟨rfl, hb⟩
  replace hba := hba.trans (hb.mono hba.size)
  clear hb
  go_wp2
  go_ret
  exact ⟨rfl, hba⟩
set_option maxRecDepth 100000 in
set_option maxHeartbeats 1000000 in
theorem crownBytes_any {Dk : (Nat → Prop) → World → Nat → St → Prop} (K : LandedDk Dk) (L : LandedCr Dk) (h : Hd) (hi : h.In) (w : World) :
    Calls Try.prog 3 #[headA h] w fun e w' => e = .returned (.bool true) ∧ Below w.heap.size w w' := by
  have hal := Lib.hid (crownAlive_any K L)
  have hby := Lib.hid (fun W => L.bytes h W hi)
  have hgo := Lib.hid (fun W => L.good h W hi)
  have hlg := Lib.hid (fun W => lawgood_any h hi W)
  have hlb := Lib.hid (fun W => lawbytes_any h W)
  have hrd := Lib.hid (fun W => L.read h.B W (by rw [Hd.B_size]; omega))
  have hl2 : ((⟨#[]⟩ : ByteArray).toList == ([] : List UInt8)) = true := by decide +kernel
  have hl3 : (h.B.toList == h.B.toList) = true := beq_self_eq_true _
  unfold Hd.S Hd.E at hby
  cases hg : h.good with
  | false =>
    rw [hg] at hgo hlg hby
    rw [if_neg (by decide), if_neg (by decide)] at hby
    unfold headA at *
    obtain ⟨t, n, z, q⟩ := h
    dsimp only at *
    go_enter Try.func3, Try.ntmps3
    have hX := Bx.made (Below.refl w.heap.size w) (.int .i64 t) (.int .i64 n) (.int .i64 z) (.int .i64 q)
    go_wp2_with fail
    generalize w.alloc (.cells #[.int .i64 t, .int .i64 n, .int .i64 z, .int .i64 q] 23) = w0 at *
    generalize w.heap.size = bk at *
    refine (hal.out _).mono ?_
    rintro e w1 ⟨rfl, hb⟩
    replace hX := hX.later hb
    clear hb
    obtain ⟨c0, c1, c2, c3, lt⟩ := hX.cells
    go_wp2_with fail
    clear c0 c1 c2 c3 lt
    refine (hby.out _).mono ?_
    rintro e w2 ⟨rfl, hb⟩
    replace hX := hX.later hb
    clear hb
    obtain ⟨c0, c1, c2, c3, lt⟩ := hX.cells
    go_wp2_with fail
    clear c0 c1 c2 c3 lt
    go_region_held3 (fun w' => w'.cell? ⟨bk, 0, none⟩ = some (.int .i64 t) ∧ w'.cell? ⟨bk, 1, none⟩ = some (.int .i64 n) ∧ w'.cell? ⟨bk, 2, none⟩ = some (.int .i64 z) ∧ w'.cell? ⟨bk, 3, none⟩ = some (.int .i64 q) ∧ Below w2.heap.size w2 w')
      (first | exact hX.held (Below.refl _ _) | exact hX.held ((Below.refl _ _).drew) | exact hX.held2 (by assumption) hbx | exact hX.held2 (by assumption) ((Below.refl _ _).drew))
      (first | (go_at_call 10; with_reducible refine (hgo.out _).mono ?_; rintro e wx ⟨rfl, hbx⟩) | (go_at_call 11; with_reducible refine (hlg.out _).mono ?_; rintro e wx ⟨rfl, hbx⟩))
    rename_i hH
    replace hX := hX.later hH.2.2.2.2
    clear hH
    obtain ⟨c0, c1, c2, c3, lt⟩ := hX.cells
    go_wp2_with fail
    clear c0 c1 c2 c3 lt
    refine (hlg.out _).mono ?_
    rintro e w5 ⟨rfl, hb⟩
    replace hX := hX.later hb
    have hbl := hX.bel
    clear hb hX
    go_wp2
    go_ret
    exact ⟨by first | rfl | simp, hbl⟩
  | true =>
    have ho := (Hd.good_iff h).1 hg
    rw [headOf_B ho, show hdO (some h) = h from rfl, show (some h).isSome = true from rfl] at hrd
    rw [hg] at hgo hlg hby
    rw [if_pos rfl, if_pos rfl] at hby
    generalize h.B = hB at *
    unfold headA at *
    obtain ⟨t, n, z, q⟩ := h
    dsimp only at *
    go_enter Try.func3, Try.ntmps3
    have hX := Bx.made (Below.refl w.heap.size w) (.int .i64 t) (.int .i64 n) (.int .i64 z) (.int .i64 q)
    go_wp2_with fail
    generalize w.alloc (.cells #[.int .i64 t, .int .i64 n, .int .i64 z, .int .i64 q] 23) = w0 at *
    generalize w.heap.size = bk at *
    refine (hal.out _).mono ?_
    rintro e w1 ⟨rfl, hb⟩
    replace hX := hX.later hb
    clear hb
    obtain ⟨c0, c1, c2, c3, lt⟩ := hX.cells
    go_wp2_with fail
    clear c0 c1 c2 c3 lt
    refine (hby.out _).mono ?_
    rintro e w2 ⟨rfl, hb⟩
    replace hX := hX.later hb
    clear hb
    obtain ⟨c0, c1, c2, c3, lt⟩ := hX.cells
    go_wp2_with fail
    clear c0 c1 c2 c3 lt
    go_region_held3 (fun w' => w'.cell? ⟨bk, 0, none⟩ = some (.int .i64 t) ∧ w'.cell? ⟨bk, 1, none⟩ = some (.int .i64 n) ∧ w'.cell? ⟨bk, 2, none⟩ = some (.int .i64 z) ∧ w'.cell? ⟨bk, 3, none⟩ = some (.int .i64 q) ∧ Below w2.heap.size w2 w')
      (first | exact hX.held (Below.refl _ _) | exact hX.held ((Below.refl _ _).drew) | exact hX.held2 (by assumption) hbx | exact hX.held2 (by assumption) ((Below.refl _ _).drew))
      (first | (go_at_call 10; with_reducible refine (hgo.out _).mono ?_; rintro e wx ⟨rfl, hbx⟩) | (go_at_call 11; with_reducible refine (hlg.out _).mono ?_; rintro e wx ⟨rfl, hbx⟩))
    rename_i hH
    replace hX := hX.later hH.2.2.2.2
    clear hH
    obtain ⟨c0, c1, c2, c3, lt⟩ := hX.cells
    go_wp2_with fail
    clear c0 c1 c2 c3 lt
    refine (hlg.out _).mono ?_
    rintro e w5 ⟨rfl, hb⟩
    replace hX := hX.later hb
    clear hb
    obtain ⟨c0, c1, c2, c3, lt⟩ := hX.cells
    go_wp2_with fail
    clear c0 c1 c2 c3 lt
    refine (hrd.out _).mono ?_
    rintro e w6 ⟨rfl, hb⟩
    replace hX := hX.later hb
    have hY := Bx.made hX.bel (.int .i64 t) (.int .i64 n) (.int .i64 z) (.int .i64 q)
    replace hX := hX.later ((Below.refl w6.heap.size w6).alloc (Nat.le_refl _) (.cells #[.int .i64 t, .int .i64 n, .int .i64 z, .int .i64 q] 23))
    clear hb
    obtain ⟨c0, c1, c2, c3, lt⟩ := hX.cells
    obtain ⟨y0, y1, y2, y3, ly⟩ := hY.cells
    generalize hw7 : w6.alloc (.cells #[.int .i64 t, .int .i64 n, .int .i64 z, .int .i64 q] 23) = w7 at *
    go_wp2_with fail
    clear hw7
    generalize w6.heap.size = by_ at *
    clear c0 c1 c2 c3 lt y0 y1 y2 y3 ly
    refine (hlb.out _).mono ?_
    rintro e w8 ⟨rfl, hb⟩
    replace hX := hX.later hb
    replace hY := hY.later hb
    clear hb
    obtain ⟨c0, c1, c2, c3, lt⟩ := hX.cells
    obtain ⟨y0, y1, y2, y3, ly⟩ := hY.cells
    have hbl := hX.bel
    clear hX hY
    go_wp2
    go_ret
    exact ⟨by first | rfl | simp, hbl⟩
set_option maxRecDepth 100000 in
set_option maxHeartbeats 1000000 in
theorem crownReads_any {Dk : (Nat → Prop) → World → Nat → St → Prop} (K : LandedDk Dk) (L : LandedCr Dk) (s : ByteArray) (hs : s.size ≤ 140737488351232) (w : World) :
    Calls Try.prog 4 #[.string s] w fun e w' => e = .returned (.bool true) ∧ Below w.heap.size w w' := by
  have hal := Lib.hid (crownAlive_any K L)
  by_cases hbig : (100 : Int) < (s.size : Int)
  · go_enter Try.func4, Try.ntmps4
    go_wp2_with fail
    refine (hal.out _).mono ?_
    rintro e w1 ⟨rfl, hb1⟩
    go_wp2
    go_ret
    exact ⟨rfl, hb1⟩
  · have hrd := Lib.hid (fun W => L.read s W hs)
    cases ho : headOf s with
    | none =>
      rw [ho, show hdO none = hd0 from rfl, show (none : Option Hd).isSome = false from rfl] at hrd
      unfold headA hd0 at hrd
      dsimp only at hrd
      go_enter Try.func4, Try.ntmps4
      go_wp2_with fail
      refine (hal.out _).mono ?_
      rintro e w1 ⟨rfl, hb1⟩
      go_wp2_with fail
      refine (hrd.out _).mono ?_
      rintro e w2 ⟨rfl, hb2⟩
      replace hb1 := hb1.trans (hb2.mono hb1.size)
      have hbl : Below w.heap.size w (w2.alloc (.cells #[.int .i64 0, .int .i64 0, .int .i64 0, .int .i64 0] 23)) := hb1.alloc hb1.size _
      clear hb2
      go_wp2
      go_ret
      exact ⟨by first | rfl | simp, hbl⟩
    | some h =>
      obtain ⟨hok, hB⟩ := headOf_some ho
      have hlg := Lib.hid (fun W => lawgood_any h hok.isIn W)
      have hlb := Lib.hid (fun W => lawbytes_any h W)
      rw [(Hd.good_iff h).2 hok] at hlg
      rw [hB] at hlb
      rw [ho, show hdO (some h) = h from rfl, show (some h).isSome = true from rfl] at hrd
      have hl3 : (s.toList == s.toList) = true := beq_self_eq_true _
      clear hok hB ho
      unfold headA at *
      obtain ⟨t, n, z, q⟩ := h
      dsimp only at *
      go_enter Try.func4, Try.ntmps4
      go_wp2_with fail
      refine (hal.out _).mono ?_
      rintro e w1 ⟨rfl, hb1⟩
      go_wp2_with fail
      refine (hrd.out _).mono ?_
      rintro e w2 ⟨rfl, hb2⟩
      replace hb1 := hb1.trans (hb2.mono hb1.size)
      have hY := Bx.made hb1 (.int .i64 t) (.int .i64 n) (.int .i64 z) (.int .i64 q)
      clear hb2 hb1
      obtain ⟨y0, y1, y2, y3, ly⟩ := hY.cells
      generalize hw7 : w2.alloc (.cells #[.int .i64 t, .int .i64 n, .int .i64 z, .int .i64 q] 23) = w7 at *
      generalize hby : w2.heap.size = by_ at *
      go_wp2_with fail
      clear hw7 y0 y1 y2 y3 ly
      refine (hlg.out _).mono ?_
      rintro e w8 ⟨rfl, hb⟩
      replace hY := hY.later hb
      clear hb
      obtain ⟨y0, y1, y2, y3, ly⟩ := hY.cells
      go_wp2_with fail
      clear y0 y1 y2 y3 ly
      refine (hlb.out _).mono ?_
      rintro e w9 ⟨rfl, hb⟩
      have hbl := (hY.later hb).bel
      clear hb hY
      go_wp2
      go_ret
      exact ⟨by first | rfl | simp, hbl⟩
end Go.Proofs.Ytgolddcmhjdmdaa
