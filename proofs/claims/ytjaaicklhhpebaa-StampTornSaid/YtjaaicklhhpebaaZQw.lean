/- StampBytes' and StampReads' walks, out of the landed contracts. -/
import Derived.Test.YtjaaicklhhpebaaZQu
namespace Go.Proofs.Ytjaaicklhhpebaa
open Go.RowKit Go.Sort Cr

/-- A leaf in a block of its own. -/
structure LeafAt (W : World) (b : Nat) (N I : Int) (D : ByteArray) : Prop where
  c0 : W.cell? ⟨b, 0, none⟩ = some (.int .i64 N)
  c1 : W.cell? ⟨b, 1, none⟩ = some (.int .i64 I)
  c2 : W.cell? ⟨b, 2, none⟩ = some (.string D)
  lt : b < W.heap.size
theorem LeafAt.later {W W' : World} {b : Nat} {N I : Int} {D : ByteArray} (h : LeafAt W b N I D) (hb : Below W.heap.size W W') : LeafAt W' b N I D :=
  ⟨by rw [hb.cell (p := ⟨b, 0, none⟩) h.lt]; exact h.c0, by rw [hb.cell (p := ⟨b, 1, none⟩) h.lt]; exact h.c1, by rw [hb.cell (p := ⟨b, 2, none⟩) h.lt]; exact h.c2, Nat.lt_of_lt_of_le h.lt hb.size⟩
theorem leaf_new (w : World) (N I : Int) (D : ByteArray) : LeafAt (w.alloc (.cells #[.int .i64 N, .int .i64 I, .string D] 23)) w.heap.size N I D :=
  ⟨by simp [go_sem], by simp [go_sem], by simp [go_sem], by simp⟩
theorem leaf_below (w : World) (N I : Int) (D : ByteArray) : Below w.heap.size w (w.alloc (.cells #[.int .i64 N, .int .i64 I, .string D] 23)) := (Below.refl _ _).alloc (Nat.le_refl _) _
theorem okLeaf_reads {N I : Int} {D : ByteArray} (h : okLeaf N I D = true) : leafOf (secB N I D) = some (N, I, D) := leafOf_sec ((okLeaf_iff N I D).1 h)
set_option maxRecDepth 100000 in
set_option maxHeartbeats 1000000 in
theorem stampBytes_any {Dk : (Nat → Prop) → World → Nat → St → Prop} (S : LandedSt Dk) (N I : Int) (D : ByteArray) (hD : D.size ≤ 140737488351232) (w : World) :
    Calls Try.prog 3 #[leafA N I D] w fun e w' => e = .returned (.bool true) ∧ Below w.heap.size w w' := by
  have hal := Lib.hid (stampAlive_any S)
  have hby := Lib.hid (fun W => S.bytes N I D W hD)
  have hgo := Lib.hid (refgood_any N I D)
  have hL := leaf_new w N I D
  have hbw := leaf_below w N I D
  by_cases hbig : (300 : Int) < ((D.size : Nat) : Int)
  · unfold leafA
    go_enter Try.func3, Try.ntmps3
    go_wp2_with fail
    refine (hal.out _).mono ?_
    rintro e w1 ⟨rfl, hb1⟩
    replace hL := hL.later hb1
    replace hbw := hbw.trans (hb1.mono hbw.size)
    have x2 := hL.c2
    have xl := hL.lt
    go_wp2
    go_ret
    exact ⟨rfl, hbw⟩
  · unfold leafA at *
    by_cases hok : okLeaf N I D = true
    · have hrd := Lib.hid (fun W => S.read (secB N I D) W (by rw [secB_size ((okLeaf_iff N I D).1 hok).d]; omega))
      rw [okLeaf_reads hok] at hrd
      have hsec := Lib.hid (refsec_any N I D ((okLeaf_iff N I D).1 hok).d)
      rw [show bytesS N I D = secB N I D from by unfold bytesS; rw [if_pos hok], show bytesE N I D = 0 from by unfold bytesE; rw [if_pos hok]] at hby
      rw [hok] at hgo
      generalize secB N I D = sec at *
      unfold leafV leafA at hrd
      replace hok := Lib.hid hok
      go_enter Try.func3, Try.ntmps3
      go_wp2_with fail
      refine (hal.out _).mono ?_
      rintro e w1 ⟨rfl, hb1⟩
      replace hL := hL.later hb1
      replace hbw := hbw.trans (hb1.mono hbw.size)
      clear hb1
      have x0 := hL.c0
      have x1 := hL.c1
      have x2 := hL.c2
      have xl := hL.lt
      go_wp2_with fail
      refine (hby.out _).mono ?_
      rintro e w2 ⟨rfl, hb1⟩
      clear x0 x1 x2 xl
      replace hL := hL.later hb1
      replace hbw := hbw.trans (hb1.mono hbw.size)
      clear hb1
      have x0 := hL.c0
      have x1 := hL.c1
      have x2 := hL.c2
      have xl := hL.lt
      go_wp2_with fail
      refine (hgo.out _).mono ?_
      rintro e w3 ⟨rfl, rfl⟩
      go_wp2_with fail
      refine (hrd.out _).mono ?_
      rintro e w3 ⟨rfl, hb1⟩
      clear x0 x1 x2 xl
      replace hL := hL.later hb1
      replace hbw := hbw.trans (hb1.mono hbw.size)
      clear hb1
      have hL2 := leaf_new w3 N I D
      have hb2 := leaf_below w3 N I D
      replace hL := hL.later hb2
      replace hbw := hbw.trans (hb2.mono hbw.size)
      clear hb2
      have x0 := hL.c0
      have x1 := hL.c1
      have x2 := hL.c2
      have xl := hL.lt
      go_wp2_with fail
      generalize w3.alloc (.cells #[.int .i64 N, .int .i64 I, .string D] 23) = w4 at *
      refine (hsec.out _).mono ?_
      rintro e w5 ⟨rfl, hb1⟩
      clear x0 x1 x2 xl
      replace hL := hL.later hb1
      replace hL2 := hL2.later hb1
      replace hbw := hbw.trans (hb1.mono hbw.size)
      clear hb1
      have x0 := hL.c0
      have x1 := hL.c1
      have x2 := hL.c2
      have xl := hL.lt
      have y0 := hL2.c0
      have y1 := hL2.c1
      have y2 := hL2.c2
      have yl := hL2.lt
      generalize w3.heap.size = b2 at *
      go_wp2
      go_ret
      exact ⟨rfl, hbw⟩
    · rw [show bytesS N I D = ⟨#[]⟩ from by unfold bytesS; rw [if_neg hok], show bytesE N I D = 1 from by unfold bytesE; rw [if_neg hok]] at hby
      rw [Bool.eq_false_iff.mpr hok] at hgo
      replace hok := Lib.hid hok
      go_enter Try.func3, Try.ntmps3
      go_wp2_with fail
      refine (hal.out _).mono ?_
      rintro e w1 ⟨rfl, hb1⟩
      replace hL := hL.later hb1
      replace hbw := hbw.trans (hb1.mono hbw.size)
      clear hb1
      have x0 := hL.c0
      have x1 := hL.c1
      have x2 := hL.c2
      have xl := hL.lt
      go_wp2_with fail
      refine (hby.out _).mono ?_
      rintro e w2 ⟨rfl, hb1⟩
      clear x0 x1 x2 xl
      replace hL := hL.later hb1
      replace hbw := hbw.trans (hb1.mono hbw.size)
      clear hb1
      have x0 := hL.c0
      have x1 := hL.c1
      have x2 := hL.c2
      have xl := hL.lt
      go_wp2_with fail
      refine (hgo.out _).mono ?_
      rintro e w3 ⟨rfl, rfl⟩
      go_wp2
      go_ret
      exact ⟨rfl, hbw⟩
set_option maxRecDepth 100000 in
set_option maxHeartbeats 1000000 in
theorem stampReads_any {Dk : (Nat → Prop) → World → Nat → St → Prop} (S : LandedSt Dk) (s : ByteArray) (hs : s.size ≤ 140737488351232) (w : World) :
    Calls Try.prog 4 #[.string s] w fun e w' => e = .returned (.bool true) ∧ Below w.heap.size w w' := by
  have hal := Lib.hid (stampAlive_any S)
  have hrd := Lib.hid (fun W => S.read s W hs)
  by_cases hbig : (300 : Int) < ((s.size : Nat) : Int)
  · go_enter Try.func4, Try.ntmps4
    go_wp2_with fail
    refine (hal.out _).mono ?_
    rintro e w1 ⟨rfl, hb1⟩
    go_wp2
    go_ret
    exact ⟨rfl, hb1⟩
  · cases hlf : leafOf s with
    | none =>
      rw [hlf] at hrd
      unfold leafV leafA at hrd
      replace hlf := Lib.hid hlf
      go_enter Try.func4, Try.ntmps4
      go_wp2_with fail
      refine (hal.out _).mono ?_
      rintro e w1 ⟨rfl, hb1⟩
      go_wp2_with fail
      refine (hrd.out _).mono ?_
      rintro e w2 ⟨rfl, hb2⟩
      replace hb1 := hb1.trans (hb2.mono hb1.size)
      clear hb2
      have hb3 := hb1.trans ((leaf_below w2 0 0 ⟨#[]⟩).mono hb1.size)
      replace hb3 := Lib.hid hb3
      go_wp2
      go_ret
      exact ⟨rfl, hb3.out⟩
    | some x =>
      obtain ⟨N, I, D⟩ := x
      rw [hlf] at hrd
      obtain ⟨hok, hse⟩ := leafOf_some hlf
      have hgo := Lib.hid (refgood_any N I D)
      rw [(okLeaf_iff N I D).2 hok] at hgo
      have hsec := Lib.hid (refsec_any N I D hok.d)
      rw [hse] at hsec
      unfold leafV leafA at hrd
      dsimp only at hrd
      clear hok hse hlf
      go_enter Try.func4, Try.ntmps4
      go_wp2_with fail
      refine (hal.out _).mono ?_
      rintro e w1 ⟨rfl, hb1⟩
      go_wp2_with fail
      refine (hrd.out _).mono ?_
      rintro e w2 ⟨rfl, hb2⟩
      replace hb1 := hb1.trans (hb2.mono hb1.size)
      clear hb2
      have hL := leaf_new w2 N I D
      have hb2 := leaf_below w2 N I D
      replace hb1 := hb1.trans (hb2.mono hb1.size)
      clear hb2
      have x0 := hL.c0
      have x1 := hL.c1
      have x2 := hL.c2
      have xl := hL.lt
      go_wp2_with fail
      generalize w2.alloc (.cells #[.int .i64 N, .int .i64 I, .string D] 23) = w3 at *
      refine (hgo.out _).mono ?_
      rintro e w4 ⟨rfl, rfl⟩
      go_wp2_with fail
      refine (hsec.out _).mono ?_
      rintro e w5 ⟨rfl, hb2⟩
      replace hb1 := hb1.trans (hb2.mono hb1.size)
      clear x0 x1 x2 xl hL
      go_wp2
      go_ret
      exact ⟨rfl, hb1⟩
end Go.Proofs.Ytjaaicklhhpebaa
