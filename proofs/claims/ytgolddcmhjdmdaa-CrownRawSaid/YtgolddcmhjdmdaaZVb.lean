/- The landed heads' small calls and bytes: what can be, a head's bytes, the head that bytes are. No condition but a text's size. -/
import Derived.Test.YtgolddcmhjdmdaaZGf
import Derived.Test.YtgolddcmhjdmdaaZUb
import Derived.Test.YtgolddcmhjdmdaaZHe
namespace Go.Proofs.Ytgolddcmhjdmdaa
open Go.RowKit Go.Sort Cr Wm Go.Lib

def inB (a n b : Int) : Bool := decide (a ≤ n) && decide (n ≤ b)
theorem good_in (h : Hd) : h.good = (inB 1 h.t 1152921504606846976 && (inB 1 h.n 1152921504606846976 && (inB 0 h.z 425984 && inB 0 h.q 1152921504606846976))) := by
  unfold Hd.good inB
  simp only [Bool.and_assoc]
set_option maxRecDepth 100000 in
theorem isWithin_any (a n b : Int) (W : World) : Calls Try.prog 27 #[.int .i64 a, .int .i64 n, .int .i64 b] W fun e W' => e = .returned (.bool (inB a n b)) ∧ W = W' := by
  by_cases h : a ≤ n
  · have hb := Lib.hid (show decide (n ≤ b) = inB a n b by unfold inB; rw [decide_eq_true h]; rfl)
    go_enter Try.func27, Try.ntmps27
    go_wp2
    go_ret
    exact ⟨by rw [← hb.out]; rfl, rfl⟩
  · have hb := Lib.hid (show inB a n b = false by unfold inB; rw [decide_eq_false h]; rfl)
    go_enter Try.func27, Try.ntmps27
    go_wp2
    go_ret
    exact ⟨by rw [hb.out]; rfl, rfl⟩
set_option maxRecDepth 100000 in
set_option maxHeartbeats 1000000 in
theorem crGood_any (h : Hd) (W : World) : Calls Try.prog 10 #[headA h] W fun e W' => e = .returned (.bool h.good) ∧ Below W.heap.size W W' := by
  have c1 := Lib.hid (fun W => isWithin_any 1 h.t 1152921504606846976 W)
  have c2 := Lib.hid (fun W => isWithin_any 1 h.n 1152921504606846976 W)
  have c3 := Lib.hid (fun W => isWithin_any 0 h.z 425984 W)
  have c4 := Lib.hid (fun W => isWithin_any 0 h.q 1152921504606846976 W)
  have hg := Lib.hid (good_in h)
  have hbl : Below W.heap.size W (W.alloc (.cells #[.int .i64 h.t, .int .i64 h.n, .int .i64 h.z, .int .i64 h.q] 23)) := (Below.refl _ _).alloc (Nat.le_refl _) _
  replace hbl := Lib.hid hbl
  rw [hg.out]
  unfold headA
  generalize inB 1 h.t 1152921504606846976 = b1 at *
  generalize inB 1 h.n 1152921504606846976 = b2 at *
  generalize inB 0 h.z 425984 = b3 at *
  generalize inB 0 h.q 1152921504606846976 = b4 at *
  generalize h.t = t at *
  generalize h.n = n at *
  generalize h.z = z at *
  generalize h.q = q at *
  clear hg
  cases b1 <;> cases b2 <;> cases b3
  all_goals
    go_enter Try.func10, Try.ntmps10
    go_wp2_with (first
      | (go_at_call 27; with_reducible refine (c1.out _).mono ?_; rintro e W1 ⟨rfl, rfl⟩)
      | (go_at_call 27; with_reducible refine (c2.out _).mono ?_; rintro e W1 ⟨rfl, rfl⟩)
      | (go_at_call 27; with_reducible refine (c3.out _).mono ?_; rintro e W1 ⟨rfl, rfl⟩)
      | (go_at_call 27; with_reducible refine (c4.out _).mono ?_; rintro e W1 ⟨rfl, rfl⟩))
    all_goals
      go_ret
      exact ⟨by first | rfl | simp, hbl.out⟩
theorem B_parts (h : Hd) : ((((ByteArray.empty ++ intB 8 h.t) ++ intB 8 h.n) ++ intB 8 h.z) ++ intB 8 h.q) = h.B := by
  unfold Hd.B
  rw [ByteArray.empty_append, ByteArray.append_assoc, ByteArray.append_assoc]
set_option maxRecDepth 100000 in
set_option maxHeartbeats 1000000 in
theorem crBytes_any (h : Hd) (W : World) (hi : h.In) : Calls Try.prog 9 #[headA h] W fun e W' => e = .returned (.tuple #[.string h.S, .int .i64 h.E]) ∧ Below W.heap.size W W' := by
  have hc := Lib.hid (fun W => crGood_any h W)
  by_cases hok : h.good = true
  · rw [hok] at hc
    have hS := Lib.hid (show h.S = h.B by unfold Hd.S; rw [if_pos hok])
    have hE := Lib.hid (show h.E = 0 by unfold Hd.E; rw [if_pos hok])
    have hB := Lib.hid (B_parts h)
    have hz := h.B_size
    obtain ⟨t, n, z, q⟩ := h
    obtain ⟨i1, i2, i3, i4⟩ := hi
    unfold headA at *
    dsimp only at *
    generalize hBB : Hd.B ⟨t, n, z, q⟩ = BB at *
    clear hok hBB
    go_enter Try.func9, Try.ntmps9
    go_wp2_with fail
    refine (hc.out _).mono ?_
    rintro e W1 ⟨rfl, hb1⟩
    have b1 : Below W.heap.size W W1 := ((Below.refl _ _).alloc (Nat.le_refl _) (.cells #[.int .i64 t, .int .i64 n, .int .i64 z, .int .i64 q] 23)).trans (hb1.mono (by simp))
    have L0 : Lw W [.int .i64 t, .int .i64 n, .int .i64 z, .int .i64 q] (W1.alloc (.cells #[.slice none 0 0] 55)) W1.heap.size ByteArray.empty :=
      ⟨⟨_, wrIs_new W1, fun k hk => by rw [hk]; have := hb1.size; simp at this; omega⟩,
        ((BoxAt.new W [.int .i64 t, .int .i64 n, .int .i64 z, .int .i64 q] 23).later hb1).later ((Below.refl _ _).alloc (Nat.le_refl _) _), b1.trans (((Below.refl _ _).alloc (Nat.le_refl _) _).mono b1.size)⟩
    have c0 := L0.box.spot 0 _ rfl
    have c1 := L0.box.spot 1 _ rfl
    have c2 := L0.box.spot 2 _ rfl
    have c3 := L0.box.spot 3 _ rfl
    clear hb1 b1
    have z8 : ∀ n : Int, (intB 8 n).size = 8 := int8_size
    have k1 := Lib.hid (fun w L => Lw.put (W0 := W) (cs := [.int .i64 t, .int .i64 n, .int .i64 z, .int .i64 q]) (w := w) (p := W1.heap.size) L (fun F hF => wrInt_any F w W1.heap.size ByteArray.empty 8 t hF (by decide) (by omega) (by omega)))
    have k2 := Lib.hid (fun w L => Lw.put (W0 := W) (cs := [.int .i64 t, .int .i64 n, .int .i64 z, .int .i64 q]) (w := w) (p := W1.heap.size) L (fun F hF => wrInt_any F w W1.heap.size (ByteArray.empty ++ intB 8 t) 8 n hF (by rw [ByteArray.empty_append]; have := z8 t; omega) (by omega) (by omega)))
    have k3 := Lib.hid (fun w L => Lw.put (W0 := W) (cs := [.int .i64 t, .int .i64 n, .int .i64 z, .int .i64 q]) (w := w) (p := W1.heap.size) L (fun F hF => wrInt_any F w W1.heap.size ((ByteArray.empty ++ intB 8 t) ++ intB 8 n) 8 z hF (by rw [ByteArray.empty_append, ByteArray.size_append, z8, z8]; omega) (by omega) (by omega)))
    have k4 := Lib.hid (fun w L => Lw.put (W0 := W) (cs := [.int .i64 t, .int .i64 n, .int .i64 z, .int .i64 q]) (w := w) (p := W1.heap.size) L (fun F hF => wrInt_any F w W1.heap.size (((ByteArray.empty ++ intB 8 t) ++ intB 8 n) ++ intB 8 z) 8 q hF (by rw [ByteArray.empty_append, ByteArray.size_append, ByteArray.size_append, z8, z8, z8]; omega) (by omega) (by omega)))
    rw [hB.out] at k4
    have k5 := Lib.hid (fun w L => Lw.say (W0 := W) (cs := [.int .i64 t, .int .i64 n, .int .i64 z, .int .i64 q]) (w := w) (p := W1.heap.size) L (fun F hF => wrStr_any F w W1.heap.size BB hF (by omega)))
    clear hB hz i1 i2 i3 i4 z8
    generalize (((ByteArray.empty ++ intB 8 t) ++ intB 8 n) ++ intB 8 z) = x3 at *
    generalize ((ByteArray.empty ++ intB 8 t) ++ intB 8 n) = x2 at *
    generalize (ByteArray.empty ++ intB 8 t) = x1 at *
    generalize ByteArray.empty = x0 at *
    have i0 : ∀ w, (Instr.index 56 (.agg #[.int .i64 t, .int .i64 n, .int .i64 z, .int .i64 q]) (.int .i64 0)).run Try.prog w = .ok (.int .i64 t) w := fun _ => by kernel_rfl
    have i1 : ∀ w, (Instr.index 56 (.agg #[.int .i64 t, .int .i64 n, .int .i64 z, .int .i64 q]) (.int .i64 1)).run Try.prog w = .ok (.int .i64 n) w := fun _ => by kernel_rfl
    have i2 : ∀ w, (Instr.index 56 (.agg #[.int .i64 t, .int .i64 n, .int .i64 z, .int .i64 q]) (.int .i64 2)).run Try.prog w = .ok (.int .i64 z) w := fun _ => by kernel_rfl
    have i3 : ∀ w, (Instr.index 56 (.agg #[.int .i64 t, .int .i64 n, .int .i64 z, .int .i64 q]) (.int .i64 3)).run Try.prog w = .ok (.int .i64 q) w := fun _ => by kernel_rfl
    go_wp2_with fail
    clear c0 c1 c2 c3
    generalize (W1.alloc (.cells #[.slice none 0 0] 55)) = W2 at *
    go_loopw [19] (fun iv wr => (iv = .int .i64 0 ∧ Lw W [.int .i64 t, .int .i64 n, .int .i64 z, .int .i64 q] wr W1.heap.size x0) ∨ (iv = .int .i64 1 ∧ Lw W [.int .i64 t, .int .i64 n, .int .i64 z, .int .i64 q] wr W1.heap.size x1) ∨ (iv = .int .i64 2 ∧ Lw W [.int .i64 t, .int .i64 n, .int .i64 z, .int .i64 q] wr W1.heap.size x2) ∨ (iv = .int .i64 3 ∧ Lw W [.int .i64 t, .int .i64 n, .int .i64 z, .int .i64 q] wr W1.heap.size x3) ∨ (iv = .int .i64 4 ∧ Lw W [.int .i64 t, .int .i64 n, .int .i64 z, .int .i64 q] wr W1.heap.size BB)) (fun iv _ => (4 - RowKit.intOf iv).toNat)
    case atStart => exact .inl ⟨rfl, L0⟩
    case round =>
      clear L0
      obtain ⟨rfl, L⟩ | ⟨rfl, L⟩ | ⟨rfl, L⟩ | ⟨rfl, L⟩ | ⟨rfl, L⟩ := hrel
      · clear k2 k3 k4 k5
        go_wp2_with fail
        refine (k1.out _ L).mono ?_
        clear k1 L
        rintro e W9 ⟨rfl, L2⟩
        go_wp2_with fail
        exact ⟨.inr (.inl ⟨rfl, L2⟩), by decide⟩
      · clear k1 k3 k4 k5
        go_wp2_with fail
        refine (k2.out _ L).mono ?_
        clear k2 L
        rintro e W9 ⟨rfl, L2⟩
        go_wp2_with fail
        exact ⟨.inr (.inr (.inl ⟨rfl, L2⟩)), by decide⟩
      · clear k1 k2 k4 k5
        go_wp2_with fail
        refine (k3.out _ L).mono ?_
        clear k3 L
        rintro e W9 ⟨rfl, L2⟩
        go_wp2_with fail
        exact ⟨.inr (.inr (.inr (.inl ⟨rfl, L2⟩))), by decide⟩
      · clear k1 k2 k3 k5
        go_wp2_with fail
        refine (k4.out _ L).mono ?_
        clear k4 L
        rintro e W9 ⟨rfl, L2⟩
        go_wp2_with fail
        exact ⟨.inr (.inr (.inr (.inr ⟨rfl, L2⟩))), by decide⟩
      · go_wp2_with fail
        refine (k5.out _ L).mono ?_
        rintro e W9 ⟨rfl, L2⟩
        go_wp2
        go_ret2
        exact ⟨by rw [hS.out, hE.out]; rfl, L2.bel⟩
  · have hb := Lib.hid (show h.good = false by simpa using hok)
    rw [hb.out] at hc
    have hS := Lib.hid (show h.S = ⟨#[]⟩ by unfold Hd.S; rw [if_neg hok])
    have hE := Lib.hid (show h.E = 1 by unfold Hd.E; rw [if_neg hok])
    unfold headA at *
    clear hok
    go_enter Try.func9, Try.ntmps9
    go_wp2_with fail
    refine (hc.out _).mono ?_
    rintro e W1 ⟨rfl, hb1⟩
    have b1 : Below W.heap.size W W1 := ((Below.refl _ _).alloc (Nat.le_refl _) (.cells #[.int .i64 h.t, .int .i64 h.n, .int .i64 h.z, .int .i64 h.q] 23)).trans (hb1.mono (by simp))
    clear hb1
    go_wp2
    go_ret2
    exact ⟨by rw [hS.out, hE.out]; rfl, b1⟩
end Go.Proofs.Ytgolddcmhjdmdaa
