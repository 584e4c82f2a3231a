/- WideBytes' walk: for all numbers below 2^128, all strings, all cuts. -/
import Derived.Test.YtddjogbenfkcpaaDoorEq
import Derived.Test.YtddjogbenfkcpaaDoorBc
namespace Go.Proofs.YtddjogbenfkcpaaDoor
open Go.RowKit Go.Sort Wm
attribute [local go_sem high] run_eql_num run_neq_num run_eql_num0

set_option maxRecDepth 100000 in
set_option maxHeartbeats 4000000 in
theorem wideBytes_long (a : Nat) (more : ByteArray) (cut : Int) (hm : 100 < more.size) (hm2 : more.size ≤ maxLen) (w : World) (hM : Most w) :
    Calls Tryd.prog 5 #[numV a, .string more, .int .i64 cut] w fun e w' => e = .returned (.bool true) ∧ Below w.heap.size w w' := by
  unfold maxLen at hm2
  have hal := Lib.hid (fun w hM => alive_any w hM)
  go_enter Tryd.func5, Tryd.ntmps5
  go_wp2_with fail
  refine (hal.out _ (hM.later ?_)).mono ?_
  · exact (Below.refl _ _).alloc (Nat.le_refl _) _
  rintro e w1 ⟨rfl, hw1⟩
  have hb1 : Below w.heap.size w w1 := ((Below.refl _ _).alloc (Nat.le_refl _) _).trans (hw1.mono (by simp))
  go_wp2
  go_ret
  exact ⟨rfl, hb1⟩

theorem cut_small (cut : Int) : ∃ k : Nat, k < 16 ∧ wrap64 ((IntKind.u64.wrap cut).tmod 16) = ((k : Nat) : Int) := by
  have h : 0 ≤ IntKind.u64.wrap cut := by rw [IntKind.wrap_u64]; omega
  refine ⟨((IntKind.u64.wrap cut) % 16).toNat, by omega, ?_⟩
  rw [Int.tmod_eq_emod_of_nonneg h]
  unfold wrap64
  omega
set_option maxRecDepth 100000 in
set_option maxHeartbeats 4000000 in
theorem wideBytes_short (a : Nat) (ha : a < big) (more : ByteArray) (cut : Int) (hm : more.size ≤ 100) (w : World) (hM : Most w) :
    Calls Tryd.prog 5 #[numV a, .string more, .int .i64 cut] w fun e w' => e = .returned (.bool true) ∧ Below w.heap.size w w' := by
  have hal := Lib.hid (fun w hM => alive_any w hM)
  have hby := Lib.hid (fun w => bytes_any a w)
  have hrby := Lib.hid (fun w => refbytes_any a w)
  have hfb := Lib.hid (fun w => frombytes_again a ha more w)
  have hfs := Lib.hid (fun s hs w => frombytes_short s hs w)
  have hsz : (⟨(bytesL a).toArray⟩ : ByteArray).size = 16 := by show (bytesL a).toArray.size = 16; simp [bytesL_length]
  generalize (⟨(bytesL a).toArray⟩ : ByteArray) = tx at *
  go_enter Tryd.func5, Tryd.ntmps5
  go_wp2_with fail
  refine (hal.out _ (hM.later ?_)).mono ?_
  · exact (Below.refl _ _).alloc (Nat.le_refl _) _
  rintro e w1 ⟨rfl, hw1⟩
  have hb1 : Below w.heap.size w w1 := ((Below.refl _ _).alloc (Nat.le_refl _) _).trans (hw1.mono (by simp))
  have hH := ((show Has w [] from trivial).new2 (.int .u64 ((hiN a : Nat) : Int)) (.int .u64 ((loN a : Nat) : Int)) 24).later hw1
  clear hw1 hal ha
  obtain ⟨⟨p0, q0⟩, ⟨p1, q1⟩, -⟩ := id hH
  try dsimp only at p0 q0 p1 q1
  go_wp2_with fail
  refine (hby.out _).mono ?_
  rintro e w2 ⟨rfl, hw2⟩
  replace hH := hH.later hw2
  replace hb1 := hb1.trans (hw2.mono (Below.size hb1))
  clear hw2
  clear p0 q0 p1 q1
  obtain ⟨⟨p0, q0⟩, ⟨p1, q1⟩, -⟩ := id hH
  try dsimp only at p0 q0 p1 q1
  go_wp2_with fail
  refine (hfb.out _).mono ?_
  rintro e w3 ⟨rfl, hw3⟩
  replace hH := hH.later hw3
  replace hb1 := hb1.trans (hw3.mono (Below.size hb1))
  clear hw3
  clear p0 q0 p1 q1
  obtain ⟨⟨p0, q0⟩, ⟨p1, q1⟩, -⟩ := id hH
  try dsimp only at p0 q0 p1 q1
  obtain ⟨k, hk, hcut⟩ := cut_small cut
  replace hcut := Lib.hid hcut
  go_wp2_with fail
  rw [hcut.out]
  refine (hrby.out _).mono ?_
  rintro e w4 ⟨rfl, hw4⟩
  replace hH := (hH.new2 _ _ _).later hw4
  replace hb1 := (hb1.alloc hb1.size _).trans (hw4.mono (hb1.alloc hb1.size _).size)
  clear hw4
  clear p0 q0 p1 q1
  obtain ⟨⟨p0, q0⟩, ⟨p1, q1⟩, ⟨p2, q2⟩, ⟨p3, q3⟩, -⟩ := id hH
  try dsimp only at p0 q0 p1 q1 p2 q2 p3 q3
  go_wp2_with fail
  refine (hfs.out (tx.extract 0 k) (by rw [ByteArray.size_extract]; omega) _).mono ?_
  rintro e w5 ⟨rfl, hw5⟩
  replace hH := hH.later hw5
  replace hb1 := hb1.trans (hw5.mono hb1.size)
  clear hw5
  clear p0 q0 p1 q1 p2 q2 p3 q3
  obtain ⟨⟨p0, q0⟩, ⟨p1, q1⟩, ⟨p2, q2⟩, ⟨p3, q3⟩, -⟩ := id hH
  try dsimp only at p0 q0 p1 q1 p2 q2 p3 q3
  go_wp2_with fail
  refine (hrby.out _).mono ?_
  rintro e w6 ⟨rfl, hw6⟩
  replace hH := (hH.new2 _ _ _).later hw6
  replace hb1 := (hb1.alloc (Below.size hb1) _).trans (hw6.mono (Below.size (hb1.alloc (Below.size hb1) _)))
  clear hw6
  clear p0 q0 p1 q1 p2 q2 p3 q3
  obtain ⟨⟨p0, q0⟩, ⟨p1, q1⟩, ⟨p2, q2⟩, ⟨p3, q3⟩, ⟨p4, q4⟩, ⟨p5, q5⟩, -⟩ := id hH
  try dsimp only at p0 q0 p1 q1 p2 q2 p3 q3 p4 q4 p5 q5
  go_wp2
  go_ret
  exact ⟨rfl, hb1⟩
theorem wideBytes_any (a : Nat) (more : ByteArray) (cut : Int) (ha : a < big) (hm2 : more.size ≤ maxLen) (_h : (Lit.int .i64 cut).wf = true) (w : World) (hM : Most w) :
    Calls Tryd.prog 5 #[numV a, .string more, .int .i64 cut] w fun e w' => e = .returned (.bool true) ∧ Below w.heap.size w w' := by
  by_cases hm : 100 < more.size
  · exact wideBytes_long a more cut hm hm2 w hM
  · exact wideBytes_short a ha more cut (by omega) w hM
end Go.Proofs.YtddjogbenfkcpaaDoor
