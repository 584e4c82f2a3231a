/- What the walks of stage 2's laws ask of the landed sum, as a list of contracts over worlds that keep a condition L; and the question that each law asks first. -/
import Derived.Test.YtbjhkggdklnkjaaCb
import Derived.RegionTactic
import Derived.Deep.RegionWith
import Derived.Deep.RegionHeld3
namespace Go.Proofs.Ytbjhkggdklnkjaa
open Go.RowKit Go.Sort Cr

/-- The landed functions' contracts. -/
structure Landed (L : World → Prop) : Prop where
  later : ∀ w w' : World, L w → Below w.heap.size w w' → L w'
  sum : ∀ (a : Nat) (s : ByteArray), a < W → s.size ≤ 4096 → ∀ w, L w →
    Calls Try.prog 9 #[.int .u32 ((a : Nat) : Int), .string s] w fun e w' => e = .returned (.int .u32 ((sumC a (bytesC s) : Nat) : Int)) ∧ Below w.heap.size w w'
  bytes : ∀ c : Nat, c < W → ∀ w, L w →
    Calls Try.prog 11 #[.int .u32 ((c : Nat) : Int)] w fun e w' => e = .returned (.string (fourT c)) ∧ Below w.heap.size w w'

theorem Landed.sum0 {L : World → Prop} (K : Landed L) (s : ByteArray) (hs : s.size ≤ 4096) (w : World) (hL : L w) :
    Calls Try.prog 9 #[.int .u32 0, .string s] w fun e w' => e = .returned (.int .u32 ((sumC 0 (bytesC s) : Nat) : Int)) ∧ Below w.heap.size w w' :=
  K.sum 0 s (by rw [W_eq]; decide) hs w hL
theorem bytesC_take (s : ByteArray) (k : Nat) : bytesC (s.extract 0 k) = (bytesC s).take k := by
  unfold bytesC
  rw [ByteArray.data_extract, Array.toList_extract, List.map_take]
  simp
theorem bytesC_drop (s : ByteArray) (k : Nat) : bytesC (s.extract k s.size) = (bytesC s).drop k := by
  unfold bytesC
  rw [ByteArray.data_extract, Array.toList_extract]
  rw [← List.map_drop]
  congr 1
  simp only [List.extract_eq_take_drop]
  exact List.take_of_length_le (by rw [List.length_drop]; show s.size - k ≤ _; omega)
theorem bytesC_append (s t : ByteArray) : bytesC (s ++ t) = bytesC s ++ bytesC t := by
  unfold bytesC
  rw [ByteArray.data_append, Array.toList_append, List.map_append]
theorem bytesC_inj {s t : ByteArray} (h : bytesC s = bytesC t) : s = t := by
  unfold bytesC at h
  have := List.map_inj_right (f := UInt8.toNat) (fun a b e => UInt8.toNat_inj.mp e) |>.mp h
  exact ByteArray.ext (Array.toList_inj.mp this)
theorem sum_goes (s : ByteArray) (k : Nat) : sumC (sumC 0 (bytesC (s.extract 0 k))) (bytesC (s.extract k s.size)) = sumC 0 (bytesC s) := by
  rw [bytesC_take, bytesC_drop, ← sumC_append 0 _ _ (fun b hb => bytesC_lt s b (List.mem_of_mem_take hb)), List.take_append_drop]

theorem kp_call {L : World → Prop} (K : Landed L) {w W wx : World} (h : L W ∧ Below w.heap.size w W) (hb : Below W.heap.size W wx) : L wx ∧ Below w.heap.size w wx :=
  ⟨K.later _ _ h.1 hb, h.2.trans (hb.mono h.2.size)⟩
theorem kp_drew {L : World → Prop} (K : Landed L) {w W : World} (h : L W ∧ Below w.heap.size w W) : L W.drew ∧ Below w.heap.size w W.drew :=
  ⟨K.later _ _ h.1 (Below.refl _ _).drew, h.2.drew⟩
theorem told : sumC 0 (bytesC ⟨#[49, 50, 51, 52, 53, 54, 55, 56, 57]⟩) = 3808858755 := by decide +kernel
theorem told_any {L : World → Prop} (K : Landed L) (w : World) (hL : L w) :
    Calls Try.prog 9 #[.int .u32 0, .string ⟨#[49, 50, 51, 52, 53, 54, 55, 56, 57]⟩] w fun e w' => e = .returned (.int .u32 3808858755) ∧ Below w.heap.size w w' := by
  have := K.sum 0 ⟨#[49, 50, 51, 52, 53, 54, 55, 56, 57]⟩ (by rw [W_eq]; decide) (by show 9 ≤ 4096; decide) w hL
  rw [told] at this
  exact this
set_option maxRecDepth 100000 in
set_option maxHeartbeats 1000000 in
theorem alive2_any {L : World → Prop} (K : Landed L) (w : World) (hL : L w) :
    Calls Try.prog 8 #[] w fun e w' => e = .returned (.bool true) ∧ Below w.heap.size w w' := by
  have hc := Lib.hid (fun w hL => told_any K w hL)
  go_enter Try.func8, Try.ntmps8
  go_wp2_with fail
  refine (hc.out _ hL).mono ?_
  rintro e w1 ⟨rfl, hb1⟩
  go_wp2
  go_ret
  exact ⟨rfl, hb1⟩

set_option maxRecDepth 100000 in
set_option maxHeartbeats 1000000 in
theorem castagGoes_any {L : World → Prop} (K : Landed L) (s : ByteArray) (cut : Int) (hm2 : s.size ≤ maxLen) (w : World) (hL : L w) :
    Calls Try.prog 4 #[.string s, .int .i64 cut] w fun e w' => e = .returned (.bool true) ∧ Below w.heap.size w w' := by
  unfold maxLen at hm2
  have hal := Lib.hid (fun w hL => alive2_any K w hL)
  have hsum := Lib.hid K.sum
  have hlat := Lib.hid K.later
  by_cases hq : s.size ≤ 2048 ∧ 0 ≤ cut ∧ cut ≤ ((s.size : Nat) : Int)
  · obtain ⟨h1, h2, h3⟩ := hq
    obtain ⟨k, rfl⟩ := Int.eq_ofNat_of_zero_le h2
    have n1 := Lib.hid (decide_eq_false (show ¬ 2048 < ((s.size : Nat) : Int) by omega))
    have n2 := Lib.hid (decide_eq_false (show ¬ ((k : Nat) : Int) < 0 by omega))
    have n3 : ¬ s.size < k := by omega
    have hgo := Lib.hid (sum_goes s k)
    have hlt := Lib.hid (sumC_lt 0 (bytesC (s.extract 0 k)))
    go_enter Try.func4, Try.ntmps4
    go_wp2_with fail
    refine (hal.out _ hL).mono ?_
    rintro e w1 ⟨rfl, hb1⟩
    replace hL := hlat.out _ _ hL hb1
    go_wp2_with fail
    simp only [n1.out, n2.out, Bool.or_false]
    have hA := Lib.hid (fun w => K.sum0 (s.extract 0 k) (by rw [ByteArray.size_extract]; omega) w)
    have hB := Lib.hid (fun w => hsum.out _ (s.extract k s.size) hlt.out (by rw [ByteArray.size_extract]; omega) w)
    have hC := Lib.hid (fun w => K.sum0 s (by omega) w)
    have hS : L w1 ∧ Below w.heap.size w w1 := ⟨hL, hb1⟩
    go_region_held3 (fun w' => L w' ∧ Below w.heap.size w w')
      (first | exact hS | exact kp_call K (by assumption) hbx | exact kp_drew K (by assumption))
      (first | (go_at_call 9; with_reducible refine (hA.out _ (by assumption : L _ ∧ Below w.heap.size w _).1).mono ?_; rintro e wx ⟨rfl, hbx⟩) | (go_at_call 9; with_reducible refine (hB.out _ (by assumption : L _ ∧ Below w.heap.size w _).1).mono ?_; rintro e wx ⟨rfl, hbx⟩) | (go_at_call 9; with_reducible refine (hC.out _ (by assumption : L _ ∧ Below w.heap.size w _).1).mono ?_; rintro e wx ⟨rfl, hbx⟩))
    all_goals
      rename_i hHd
      go_wp2_with fail
      go_ret
      exact ⟨by simp [hgo.out], hHd.2⟩
  · have hq2 : 2048 < ((s.size : Nat) : Int) ∨ (¬ 2048 < ((s.size : Nat) : Int) ∧ cut < 0) ∨ (¬ 2048 < ((s.size : Nat) : Int) ∧ ¬ cut < 0 ∧ ((s.size : Nat) : Int) < cut) := by omega
    clear hq
    rcases hq2 with h | ⟨h, h'⟩ | ⟨h, h', h''⟩
    all_goals
      go_enter Try.func4, Try.ntmps4
      go_wp2_with fail
      refine (hal.out _ hL).mono ?_
      rintro e w1 ⟨rfl, hb1⟩
      go_wp2
      go_ret
      exact ⟨rfl, hb1⟩
end Go.Proofs.Ytbjhkggdklnkjaa
