/- WideOrder's walk: three cases, for all numbers below 2^128. -/
import Derived.Test.YtddjogbenfkcpaaDoorEq
namespace Go.Proofs.YtddjogbenfkcpaaDoor
open Go.RowKit Go.Sort Wm
attribute [local go_sem high] run_eql_num run_neq_num run_eql_num0

set_option maxRecDepth 100000 in
set_option maxHeartbeats 4000000 in
theorem wideOrder_gt (a b c : Nat) (ha : a < big) (hb : b < big) (hc : c < big) (h : b < a) (w : World) (hM : Most w) :
    Calls Tryd.prog 4 #[numV a, numV b, numV c] w fun e w' => e = .returned (.bool true) ∧ Below w.heap.size w w' := by
  have hal := Lib.hid (fun w hM => alive_any w hM)
  have hrless := Lib.hid (fun w => by have := refless_any a b ha hb w; rw [show lessN a b = false from decide_eq_false (by omega)] at this; exact this)
  have hless := Lib.hid (fun w => by have := less_any a b w; rw [show lessN a b = false from decide_eq_false (by omega)] at this; exact this)
  have hcmp := Lib.hid (fun w => by have := compare_any a b w; rw [show cmpN a b = 1 from cmpN_gt h] at this; exact this)
  have hcmp2 := Lib.hid (fun w => by have := compare_any b a w; rw [show cmpN b a = -1 from cmpN_lt h] at this; exact this)
  have hmin := Lib.hid (fun w => by have := min_any a b w; rw [show (if b < a then b else a) = b from if_pos h] at this; exact this)
  have hzero := Lib.hid (fun w => zero_any a w)
  have hrless2 := Lib.hid (fun w => refless_any b c hb hc w)
  have hmost := Lib.hid (fun w => by have := less_any mostN a w; rw [show lessN mostN a = false from decide_eq_false (by have := ha; rw [big_eq] at this; unfold mostN; omega)] at this; exact this)
  have hne : ¬ a = b := by omega
  go_enter Tryd.func4, Tryd.ntmps4
  go_wp2_with fail
  refine (hal.out _ (hM.later ?_)).mono ?_
  · exact (((Below.refl _ _).alloc (Nat.le_refl _) _).alloc (by simp) _).alloc (by simp; omega) _
  rintro e w1 ⟨rfl, hw1⟩
  have hb1 : Below w.heap.size w w1 := ((((Below.refl _ _).alloc (Nat.le_refl _) _).alloc (by simp) _).alloc (by simp; omega) _).trans (hw1.mono (by simp; omega))
  have hH := ((((show Has w [(0, 0, .int .u64 ((hiN mostN : Nat) : Int)), (0, 1, .int .u64 ((loN mostN : Nat) : Int))] from ⟨⟨hM.m0, hM.lt⟩, ⟨hM.m1, hM.lt⟩, trivial⟩).new2 (.int .u64 ((hiN a : Nat) : Int)) (.int .u64 ((loN a : Nat) : Int)) 24).new2 (.int .u64 ((hiN b : Nat) : Int)) (.int .u64 ((loN b : Nat) : Int)) 24).new2 (.int .u64 ((hiN c : Nat) : Int)) (.int .u64 ((loN c : Nat) : Int)) 24).later hw1
  simp only [World.size_alloc] at hH
  clear hw1 hal ha hb hc
  obtain ⟨⟨p0, q0⟩, ⟨p1, q1⟩, ⟨p2, q2⟩, ⟨p3, q3⟩, ⟨p4, q4⟩, ⟨p5, q5⟩, ⟨p6, q6⟩, ⟨p7, q7⟩, -⟩ := id hH
  try dsimp only at p0 q0 p1 q1 p2 q2 p3 q3 p4 q4 p5 q5 p6 q6 p7 q7
  go_wp2_with fail
  refine (hrless.out _).mono ?_
  rintro e w2 ⟨rfl, hw2⟩
  replace hH := hH.later hw2
  replace hb1 := hb1.trans (hw2.mono (Below.size hb1))
  clear hw2
  clear p0 q0 p1 q1 p2 q2 p3 q3 p4 q4 p5 q5 p6 q6 p7 q7
  obtain ⟨⟨p0, q0⟩, ⟨p1, q1⟩, ⟨p2, q2⟩, ⟨p3, q3⟩, ⟨p4, q4⟩, ⟨p5, q5⟩, ⟨p6, q6⟩, ⟨p7, q7⟩, -⟩ := id hH
  try dsimp only at p0 q0 p1 q1 p2 q2 p3 q3 p4 q4 p5 q5 p6 q6 p7 q7
  go_wp2_with fail
  refine (hcmp.out _).mono ?_
  rintro e w3 ⟨rfl, hw3⟩
  replace hH := hH.later hw3
  replace hb1 := hb1.trans (hw3.mono (Below.size hb1))
  clear hw3
  clear p0 q0 p1 q1 p2 q2 p3 q3 p4 q4 p5 q5 p6 q6 p7 q7
  obtain ⟨⟨p0, q0⟩, ⟨p1, q1⟩, ⟨p2, q2⟩, ⟨p3, q3⟩, ⟨p4, q4⟩, ⟨p5, q5⟩, ⟨p6, q6⟩, ⟨p7, q7⟩, -⟩ := id hH
  try dsimp only at p0 q0 p1 q1 p2 q2 p3 q3 p4 q4 p5 q5 p6 q6 p7 q7
  go_wp2
  replace hH := hH.new2 (.int .u64 ((hiN b : Nat) : Int)) (.int .u64 ((loN b : Nat) : Int)) 24
  replace hb1 := hb1.alloc hb1.size (.cells #[.int .u64 ((hiN b : Nat) : Int), .int .u64 ((loN b : Nat) : Int)] 24)
  clear p0 q0 p1 q1 p2 q2 p3 q3 p4 q4 p5 q5 p6 q6 p7 q7
  obtain ⟨⟨p0, q0⟩, ⟨p1, q1⟩, ⟨p2, q2⟩, ⟨p3, q3⟩, ⟨p4, q4⟩, ⟨p5, q5⟩, ⟨p6, q6⟩, ⟨p7, q7⟩, ⟨p8, q8⟩, ⟨p9, q9⟩, -⟩ := id hH
  try dsimp only at p0 q0 p1 q1 p2 q2 p3 q3 p4 q4 p5 q5 p6 q6 p7 q7 p8 q8 p9 q9
  generalize w3.alloc (.cells #[.int .u64 ((hiN b : Nat) : Int), .int .u64 ((loN b : Nat) : Int)] 24) = wz at *
  have c1 : ∀ d os, Calls Tryd.prog 17 #[numV a, numV b] (grow (redrawn wz d) os) _ := fun d os => Calls.regrown_of (hless.out _)
  have c2 : ∀ d os, Calls Tryd.prog 16 #[numV b, numV a] (grow (redrawn wz d) os) _ := fun d os => Calls.regrown_of (hcmp2.out _)
  have c3 : ∀ d os, Calls Tryd.prog 18 #[numV a, numV b] (grow (redrawn wz d) os) _ := fun d os => Calls.regrown_of (hmin.out _)
  have c4 : ∀ d os, Calls Tryd.prog 19 #[numV a] (grow (redrawn wz d) os) _ := fun d os => Calls.regrown_of (hzero.out _)
  have c5 : ∀ d os, Calls Tryd.prog 17 #[numV mostN, numV a] (grow (redrawn wz d) os) _ := fun d os => Calls.regrown_of (hmost.out _)
  have k0 := cell_regrown p0
  have k1 := cell_regrown p1
  have k2 := cell_regrown p2
  have k3 := cell_regrown p3
  have k4 := cell_regrown p4
  have k5 := cell_regrown p5
  have k6 := cell_regrown p6
  have k7 := cell_regrown p7
  have k8 := cell_regrown p8
  have k9 := cell_regrown p9
  refine wp_region_quiet_below (by kernel_rfl) (by kernel_rfl) ?_
  repeat (quiet_step (first | with_reducible exact c1 _ _ | with_reducible exact c2 _ _ | with_reducible exact c3 _ _ | with_reducible exact c4 _ _ | with_reducible exact c5 _ _))
  refine wpQuiet_nil ?_
  intro w9 hw'
  obtain ⟨pq, hw''⟩ := hw'
  have hw9 : Below wz.heap.size wz w9 := by rw [hw'']; exact below_regrown _ _ _
  clear hw'' k0 k1 k2 k3 k4 k5 k6 k7 k8 k9
  go_wp2
  go_ret
  exact ⟨ret_bool (by decide), hb1.trans (hw9.mono hb1.size)⟩
set_option maxRecDepth 100000 in
set_option maxHeartbeats 4000000 in
theorem wideOrder_eq (a b c : Nat) (ha : a < big) (hb : b < big) (hc : c < big) (h : a = b) (w : World) (hM : Most w) :
    Calls Tryd.prog 4 #[numV a, numV b, numV c] w fun e w' => e = .returned (.bool true) ∧ Below w.heap.size w w' := by
  have hal := Lib.hid (fun w hM => alive_any w hM)
  have hrless := Lib.hid (fun w => by have := refless_any a b ha hb w; rw [show lessN a b = false from decide_eq_false (by omega)] at this; exact this)
  have hless := Lib.hid (fun w => by have := less_any a b w; rw [show lessN a b = false from decide_eq_false (by omega)] at this; exact this)
  have hcmp := Lib.hid (fun w => by have := compare_any a b w; rw [show cmpN a b = 0 from cmpN_eq h] at this; exact this)
  have hcmp2 := Lib.hid (fun w => by have := compare_any b a w; rw [show cmpN b a = 0 from cmpN_eq h.symm] at this; exact this)
  have hmin := Lib.hid (fun w => by have := min_any a b w; rw [show (if b < a then b else a) = a from if_neg (by omega)] at this; exact this)
  have hzero := Lib.hid (fun w => zero_any a w)
  have hrless2 := Lib.hid (fun w => refless_any b c hb hc w)
  have hmost := Lib.hid (fun w => by have := less_any mostN a w; rw [show lessN mostN a = false from decide_eq_false (by have := ha; rw [big_eq] at this; unfold mostN; omega)] at this; exact this)
  have heq : decide (a = b) = true := decide_eq_true h
  clear h
  go_enter Tryd.func4, Tryd.ntmps4
  go_wp2_with fail
  refine (hal.out _ (hM.later ?_)).mono ?_
  · exact (((Below.refl _ _).alloc (Nat.le_refl _) _).alloc (by simp) _).alloc (by simp; omega) _
  rintro e w1 ⟨rfl, hw1⟩
  have hb1 : Below w.heap.size w w1 := ((((Below.refl _ _).alloc (Nat.le_refl _) _).alloc (by simp) _).alloc (by simp; omega) _).trans (hw1.mono (by simp; omega))
  have hH := ((((show Has w [(0, 0, .int .u64 ((hiN mostN : Nat) : Int)), (0, 1, .int .u64 ((loN mostN : Nat) : Int))] from ⟨⟨hM.m0, hM.lt⟩, ⟨hM.m1, hM.lt⟩, trivial⟩).new2 (.int .u64 ((hiN a : Nat) : Int)) (.int .u64 ((loN a : Nat) : Int)) 24).new2 (.int .u64 ((hiN b : Nat) : Int)) (.int .u64 ((loN b : Nat) : Int)) 24).new2 (.int .u64 ((hiN c : Nat) : Int)) (.int .u64 ((loN c : Nat) : Int)) 24).later hw1
  simp only [World.size_alloc] at hH
  clear hw1 hal ha hb hc
  obtain ⟨⟨p0, q0⟩, ⟨p1, q1⟩, ⟨p2, q2⟩, ⟨p3, q3⟩, ⟨p4, q4⟩, ⟨p5, q5⟩, ⟨p6, q6⟩, ⟨p7, q7⟩, -⟩ := id hH
  try dsimp only at p0 q0 p1 q1 p2 q2 p3 q3 p4 q4 p5 q5 p6 q6 p7 q7
  go_wp2_with fail
  refine (hrless.out _).mono ?_
  rintro e w2 ⟨rfl, hw2⟩
  replace hH := hH.later hw2
  replace hb1 := hb1.trans (hw2.mono (Below.size hb1))
  clear hw2
  clear p0 q0 p1 q1 p2 q2 p3 q3 p4 q4 p5 q5 p6 q6 p7 q7
  obtain ⟨⟨p0, q0⟩, ⟨p1, q1⟩, ⟨p2, q2⟩, ⟨p3, q3⟩, ⟨p4, q4⟩, ⟨p5, q5⟩, ⟨p6, q6⟩, ⟨p7, q7⟩, -⟩ := id hH
  try dsimp only at p0 q0 p1 q1 p2 q2 p3 q3 p4 q4 p5 q5 p6 q6 p7 q7
  go_wp2_with fail
  refine (hcmp.out _).mono ?_
  rintro e w3 ⟨rfl, hw3⟩
  replace hH := hH.later hw3
  replace hb1 := hb1.trans (hw3.mono (Below.size hb1))
  clear hw3
  clear p0 q0 p1 q1 p2 q2 p3 q3 p4 q4 p5 q5 p6 q6 p7 q7
  obtain ⟨⟨p0, q0⟩, ⟨p1, q1⟩, ⟨p2, q2⟩, ⟨p3, q3⟩, ⟨p4, q4⟩, ⟨p5, q5⟩, ⟨p6, q6⟩, ⟨p7, q7⟩, -⟩ := id hH
  try dsimp only at p0 q0 p1 q1 p2 q2 p3 q3 p4 q4 p5 q5 p6 q6 p7 q7
  go_wp2
  replace hH := hH.new2 (.int .u64 ((hiN b : Nat) : Int)) (.int .u64 ((loN b : Nat) : Int)) 24
  replace hb1 := hb1.alloc hb1.size (.cells #[.int .u64 ((hiN b : Nat) : Int), .int .u64 ((loN b : Nat) : Int)] 24)
  clear p0 q0 p1 q1 p2 q2 p3 q3 p4 q4 p5 q5 p6 q6 p7 q7
  obtain ⟨⟨p0, q0⟩, ⟨p1, q1⟩, ⟨p2, q2⟩, ⟨p3, q3⟩, ⟨p4, q4⟩, ⟨p5, q5⟩, ⟨p6, q6⟩, ⟨p7, q7⟩, ⟨p8, q8⟩, ⟨p9, q9⟩, -⟩ := id hH
  try dsimp only at p0 q0 p1 q1 p2 q2 p3 q3 p4 q4 p5 q5 p6 q6 p7 q7 p8 q8 p9 q9
  generalize w3.alloc (.cells #[.int .u64 ((hiN b : Nat) : Int), .int .u64 ((loN b : Nat) : Int)] 24) = wz at *
  have c1 : ∀ d os, Calls Tryd.prog 17 #[numV a, numV b] (grow (redrawn wz d) os) _ := fun d os => Calls.regrown_of (hless.out _)
  have c2 : ∀ d os, Calls Tryd.prog 16 #[numV b, numV a] (grow (redrawn wz d) os) _ := fun d os => Calls.regrown_of (hcmp2.out _)
  have c3 : ∀ d os, Calls Tryd.prog 18 #[numV a, numV b] (grow (redrawn wz d) os) _ := fun d os => Calls.regrown_of (hmin.out _)
  have c4 : ∀ d os, Calls Tryd.prog 19 #[numV a] (grow (redrawn wz d) os) _ := fun d os => Calls.regrown_of (hzero.out _)
  have c5 : ∀ d os, Calls Tryd.prog 17 #[numV mostN, numV a] (grow (redrawn wz d) os) _ := fun d os => Calls.regrown_of (hmost.out _)
  have k0 := cell_regrown p0
  have k1 := cell_regrown p1
  have k2 := cell_regrown p2
  have k3 := cell_regrown p3
  have k4 := cell_regrown p4
  have k5 := cell_regrown p5
  have k6 := cell_regrown p6
  have k7 := cell_regrown p7
  have k8 := cell_regrown p8
  have k9 := cell_regrown p9
  refine wp_region_quiet_below (by kernel_rfl) (by kernel_rfl) ?_
  repeat (quiet_step (first | with_reducible exact c1 _ _ | with_reducible exact c2 _ _ | with_reducible exact c3 _ _ | with_reducible exact c4 _ _ | with_reducible exact c5 _ _))
  refine wpQuiet_nil ?_
  intro w9 hw'
  obtain ⟨pq, hw''⟩ := hw'
  have hw9 : Below wz.heap.size wz w9 := by rw [hw'']; exact below_regrown _ _ _
  clear hw'' k0 k1 k2 k3 k4 k5 k6 k7 k8 k9
  go_wp2
  go_ret
  exact ⟨ret_bool (by decide), hb1.trans (hw9.mono hb1.size)⟩
set_option maxRecDepth 100000 in
set_option maxHeartbeats 4000000 in
theorem wideOrder_lt1 (a b c : Nat) (ha : a < big) (hb : b < big) (hc : c < big) (h : a < b) (k : ¬ b < c) (w : World) (hM : Most w) :
    Calls Tryd.prog 4 #[numV a, numV b, numV c] w fun e w' => e = .returned (.bool true) ∧ Below w.heap.size w w' := by
  have hal := Lib.hid (fun w hM => alive_any w hM)
  have hrless := Lib.hid (fun w => by have := refless_any a b ha hb w; rw [show lessN a b = true from decide_eq_true h] at this; exact this)
  have hless := Lib.hid (fun w => by have := less_any a b w; rw [show lessN a b = true from decide_eq_true h] at this; exact this)
  have hcmp := Lib.hid (fun w => by have := compare_any a b w; rw [show cmpN a b = -1 from cmpN_lt h] at this; exact this)
  have hcmp2 := Lib.hid (fun w => by have := compare_any b a w; rw [show cmpN b a = 1 from cmpN_gt h] at this; exact this)
  have hmin := Lib.hid (fun w => by have := min_any a b w; rw [show (if b < a then b else a) = a from if_neg (by omega)] at this; exact this)
  have hzero := Lib.hid (fun w => zero_any a w)
  have hrless2 := Lib.hid (fun w => by have := refless_any b c hb hc w; rw [show lessN b c = false from decide_eq_false k] at this; exact this)
  have hmost := Lib.hid (fun w => by have := less_any mostN a w; rw [show lessN mostN a = false from decide_eq_false (by have := ha; rw [big_eq] at this; unfold mostN; omega)] at this; exact this)
  have hne : ¬ a = b := by omega
  go_enter Tryd.func4, Tryd.ntmps4
  go_wp2_with fail
  refine (hal.out _ (hM.later ?_)).mono ?_
  · exact (((Below.refl _ _).alloc (Nat.le_refl _) _).alloc (by simp) _).alloc (by simp; omega) _
  rintro e w1 ⟨rfl, hw1⟩
  have hb1 : Below w.heap.size w w1 := ((((Below.refl _ _).alloc (Nat.le_refl _) _).alloc (by simp) _).alloc (by simp; omega) _).trans (hw1.mono (by simp; omega))
  have hH := ((((show Has w [(0, 0, .int .u64 ((hiN mostN : Nat) : Int)), (0, 1, .int .u64 ((loN mostN : Nat) : Int))] from ⟨⟨hM.m0, hM.lt⟩, ⟨hM.m1, hM.lt⟩, trivial⟩).new2 (.int .u64 ((hiN a : Nat) : Int)) (.int .u64 ((loN a : Nat) : Int)) 24).new2 (.int .u64 ((hiN b : Nat) : Int)) (.int .u64 ((loN b : Nat) : Int)) 24).new2 (.int .u64 ((hiN c : Nat) : Int)) (.int .u64 ((loN c : Nat) : Int)) 24).later hw1
  simp only [World.size_alloc] at hH
  clear hw1 hal ha hb hc
  obtain ⟨⟨p0, q0⟩, ⟨p1, q1⟩, ⟨p2, q2⟩, ⟨p3, q3⟩, ⟨p4, q4⟩, ⟨p5, q5⟩, ⟨p6, q6⟩, ⟨p7, q7⟩, -⟩ := id hH
  try dsimp only at p0 q0 p1 q1 p2 q2 p3 q3 p4 q4 p5 q5 p6 q6 p7 q7
  go_wp2_with fail
  refine (hrless.out _).mono ?_
  rintro e w2 ⟨rfl, hw2⟩
  replace hH := hH.later hw2
  replace hb1 := hb1.trans (hw2.mono (Below.size hb1))
  clear hw2
  clear p0 q0 p1 q1 p2 q2 p3 q3 p4 q4 p5 q5 p6 q6 p7 q7
  obtain ⟨⟨p0, q0⟩, ⟨p1, q1⟩, ⟨p2, q2⟩, ⟨p3, q3⟩, ⟨p4, q4⟩, ⟨p5, q5⟩, ⟨p6, q6⟩, ⟨p7, q7⟩, -⟩ := id hH
  try dsimp only at p0 q0 p1 q1 p2 q2 p3 q3 p4 q4 p5 q5 p6 q6 p7 q7
  go_wp2_with fail
  refine (hcmp.out _).mono ?_
  rintro e w3 ⟨rfl, hw3⟩
  replace hH := hH.later hw3
  replace hb1 := hb1.trans (hw3.mono (Below.size hb1))
  clear hw3
  clear p0 q0 p1 q1 p2 q2 p3 q3 p4 q4 p5 q5 p6 q6 p7 q7
  obtain ⟨⟨p0, q0⟩, ⟨p1, q1⟩, ⟨p2, q2⟩, ⟨p3, q3⟩, ⟨p4, q4⟩, ⟨p5, q5⟩, ⟨p6, q6⟩, ⟨p7, q7⟩, -⟩ := id hH
  try dsimp only at p0 q0 p1 q1 p2 q2 p3 q3 p4 q4 p5 q5 p6 q6 p7 q7
  go_wp2
  replace hH := hH.new2 (.int .u64 ((hiN a : Nat) : Int)) (.int .u64 ((loN a : Nat) : Int)) 24
  replace hb1 := hb1.alloc hb1.size (.cells #[.int .u64 ((hiN a : Nat) : Int), .int .u64 ((loN a : Nat) : Int)] 24)
  clear p0 q0 p1 q1 p2 q2 p3 q3 p4 q4 p5 q5 p6 q6 p7 q7
  obtain ⟨⟨p0, q0⟩, ⟨p1, q1⟩, ⟨p2, q2⟩, ⟨p3, q3⟩, ⟨p4, q4⟩, ⟨p5, q5⟩, ⟨p6, q6⟩, ⟨p7, q7⟩, ⟨p8, q8⟩, ⟨p9, q9⟩, -⟩ := id hH
  try dsimp only at p0 q0 p1 q1 p2 q2 p3 q3 p4 q4 p5 q5 p6 q6 p7 q7 p8 q8 p9 q9
  generalize w3.alloc (.cells #[.int .u64 ((hiN a : Nat) : Int), .int .u64 ((loN a : Nat) : Int)] 24) = wz at *
  have c1 : ∀ d os, Calls Tryd.prog 17 #[numV a, numV b] (grow (redrawn wz d) os) _ := fun d os => Calls.regrown_of (hless.out _)
  have c2 : ∀ d os, Calls Tryd.prog 16 #[numV b, numV a] (grow (redrawn wz d) os) _ := fun d os => Calls.regrown_of (hcmp2.out _)
  have c3 : ∀ d os, Calls Tryd.prog 18 #[numV a, numV b] (grow (redrawn wz d) os) _ := fun d os => Calls.regrown_of (hmin.out _)
  have c4 : ∀ d os, Calls Tryd.prog 19 #[numV a] (grow (redrawn wz d) os) _ := fun d os => Calls.regrown_of (hzero.out _)
  have c5 : ∀ d os, Calls Tryd.prog 17 #[numV mostN, numV a] (grow (redrawn wz d) os) _ := fun d os => Calls.regrown_of (hmost.out _)
  have c6 : ∀ d os, Calls Tryd.prog 15 #[numV b, numV c] (grow (redrawn wz d) os) _ := fun d os => Calls.regrown_of (hrless2.out _)
  have k0 := cell_regrown p0
  have k1 := cell_regrown p1
  have k2 := cell_regrown p2
  have k3 := cell_regrown p3
  have k4 := cell_regrown p4
  have k5 := cell_regrown p5
  have k6 := cell_regrown p6
  have k7 := cell_regrown p7
  have k8 := cell_regrown p8
  have k9 := cell_regrown p9
  refine wp_region_quiet_below (by kernel_rfl) (by kernel_rfl) ?_
  repeat (quiet_step (first | with_reducible exact c1 _ _ | with_reducible exact c2 _ _ | with_reducible exact c3 _ _ | with_reducible exact c4 _ _ | with_reducible exact c5 _ _ | with_reducible exact c6 _ _))
  refine wpQuiet_nil ?_
  intro w9 hw'
  obtain ⟨pq, hw''⟩ := hw'
  have hw9 : Below wz.heap.size wz w9 := by rw [hw'']; exact below_regrown _ _ _
  clear hw'' k0 k1 k2 k3 k4 k5 k6 k7 k8 k9
  go_wp2
  go_ret
  exact ⟨ret_bool (by decide), hb1.trans (hw9.mono hb1.size)⟩
set_option maxRecDepth 100000 in
set_option maxHeartbeats 4000000 in
theorem wideOrder_lt2 (a b c : Nat) (ha : a < big) (hb : b < big) (hc : c < big) (h : a < b) (k : b < c) (w : World) (hM : Most w) :
    Calls Tryd.prog 4 #[numV a, numV b, numV c] w fun e w' => e = .returned (.bool true) ∧ Below w.heap.size w w' := by
  have hal := Lib.hid (fun w hM => alive_any w hM)
  have hrless := Lib.hid (fun w => by have := refless_any a b ha hb w; rw [show lessN a b = true from decide_eq_true h] at this; exact this)
  have hless := Lib.hid (fun w => by have := less_any a b w; rw [show lessN a b = true from decide_eq_true h] at this; exact this)
  have hcmp := Lib.hid (fun w => by have := compare_any a b w; rw [show cmpN a b = -1 from cmpN_lt h] at this; exact this)
  have hcmp2 := Lib.hid (fun w => by have := compare_any b a w; rw [show cmpN b a = 1 from cmpN_gt h] at this; exact this)
  have hmin := Lib.hid (fun w => by have := min_any a b w; rw [show (if b < a then b else a) = a from if_neg (by omega)] at this; exact this)
  have hzero := Lib.hid (fun w => zero_any a w)
  have hrless2 := Lib.hid (fun w => by have := refless_any b c hb hc w; rw [show lessN b c = true from decide_eq_true k] at this; exact this)
  have hless2 := Lib.hid (fun w => by have := less_any a c w; rw [show lessN a c = true from decide_eq_true (by omega)] at this; exact this)
  have hmost := Lib.hid (fun w => by have := less_any mostN a w; rw [show lessN mostN a = false from decide_eq_false (by have := ha; rw [big_eq] at this; unfold mostN; omega)] at this; exact this)
  have hne : ¬ a = b := by omega
  go_enter Tryd.func4, Tryd.ntmps4
  go_wp2_with fail
  refine (hal.out _ (hM.later ?_)).mono ?_
  · exact (((Below.refl _ _).alloc (Nat.le_refl _) _).alloc (by simp) _).alloc (by simp; omega) _
  rintro e w1 ⟨rfl, hw1⟩
  have hb1 : Below w.heap.size w w1 := ((((Below.refl _ _).alloc (Nat.le_refl _) _).alloc (by simp) _).alloc (by simp; omega) _).trans (hw1.mono (by simp; omega))
  have hH := ((((show Has w [(0, 0, .int .u64 ((hiN mostN : Nat) : Int)), (0, 1, .int .u64 ((loN mostN : Nat) : Int))] from ⟨⟨hM.m0, hM.lt⟩, ⟨hM.m1, hM.lt⟩, trivial⟩).new2 (.int .u64 ((hiN a : Nat) : Int)) (.int .u64 ((loN a : Nat) : Int)) 24).new2 (.int .u64 ((hiN b : Nat) : Int)) (.int .u64 ((loN b : Nat) : Int)) 24).new2 (.int .u64 ((hiN c : Nat) : Int)) (.int .u64 ((loN c : Nat) : Int)) 24).later hw1
  simp only [World.size_alloc] at hH
  clear hw1 hal ha hb hc
  obtain ⟨⟨p0, q0⟩, ⟨p1, q1⟩, ⟨p2, q2⟩, ⟨p3, q3⟩, ⟨p4, q4⟩, ⟨p5, q5⟩, ⟨p6, q6⟩, ⟨p7, q7⟩, -⟩ := id hH
  try dsimp only at p0 q0 p1 q1 p2 q2 p3 q3 p4 q4 p5 q5 p6 q6 p7 q7
  go_wp2_with fail
  refine (hrless.out _).mono ?_
  rintro e w2 ⟨rfl, hw2⟩
  replace hH := hH.later hw2
  replace hb1 := hb1.trans (hw2.mono (Below.size hb1))
  clear hw2
  clear p0 q0 p1 q1 p2 q2 p3 q3 p4 q4 p5 q5 p6 q6 p7 q7
  obtain ⟨⟨p0, q0⟩, ⟨p1, q1⟩, ⟨p2, q2⟩, ⟨p3, q3⟩, ⟨p4, q4⟩, ⟨p5, q5⟩, ⟨p6, q6⟩, ⟨p7, q7⟩, -⟩ := id hH
  try dsimp only at p0 q0 p1 q1 p2 q2 p3 q3 p4 q4 p5 q5 p6 q6 p7 q7
  go_wp2_with fail
  refine (hcmp.out _).mono ?_
  rintro e w3 ⟨rfl, hw3⟩
  replace hH := hH.later hw3
  replace hb1 := hb1.trans (hw3.mono (Below.size hb1))
  clear hw3
  clear p0 q0 p1 q1 p2 q2 p3 q3 p4 q4 p5 q5 p6 q6 p7 q7
  obtain ⟨⟨p0, q0⟩, ⟨p1, q1⟩, ⟨p2, q2⟩, ⟨p3, q3⟩, ⟨p4, q4⟩, ⟨p5, q5⟩, ⟨p6, q6⟩, ⟨p7, q7⟩, -⟩ := id hH
  try dsimp only at p0 q0 p1 q1 p2 q2 p3 q3 p4 q4 p5 q5 p6 q6 p7 q7
  go_wp2
  replace hH := hH.new2 (.int .u64 ((hiN a : Nat) : Int)) (.int .u64 ((loN a : Nat) : Int)) 24
  replace hb1 := hb1.alloc hb1.size (.cells #[.int .u64 ((hiN a : Nat) : Int), .int .u64 ((loN a : Nat) : Int)] 24)
  clear p0 q0 p1 q1 p2 q2 p3 q3 p4 q4 p5 q5 p6 q6 p7 q7
  obtain ⟨⟨p0, q0⟩, ⟨p1, q1⟩, ⟨p2, q2⟩, ⟨p3, q3⟩, ⟨p4, q4⟩, ⟨p5, q5⟩, ⟨p6, q6⟩, ⟨p7, q7⟩, ⟨p8, q8⟩, ⟨p9, q9⟩, -⟩ := id hH
  try dsimp only at p0 q0 p1 q1 p2 q2 p3 q3 p4 q4 p5 q5 p6 q6 p7 q7 p8 q8 p9 q9
  generalize w3.alloc (.cells #[.int .u64 ((hiN a : Nat) : Int), .int .u64 ((loN a : Nat) : Int)] 24) = wz at *
  have c1 : ∀ d os, Calls Tryd.prog 17 #[numV a, numV b] (grow (redrawn wz d) os) _ := fun d os => Calls.regrown_of (hless.out _)
  have c2 : ∀ d os, Calls Tryd.prog 16 #[numV b, numV a] (grow (redrawn wz d) os) _ := fun d os => Calls.regrown_of (hcmp2.out _)
  have c3 : ∀ d os, Calls Tryd.prog 18 #[numV a, numV b] (grow (redrawn wz d) os) _ := fun d os => Calls.regrown_of (hmin.out _)
  have c4 : ∀ d os, Calls Tryd.prog 19 #[numV a] (grow (redrawn wz d) os) _ := fun d os => Calls.regrown_of (hzero.out _)
  have c5 : ∀ d os, Calls Tryd.prog 17 #[numV mostN, numV a] (grow (redrawn wz d) os) _ := fun d os => Calls.regrown_of (hmost.out _)
  have c6 : ∀ d os, Calls Tryd.prog 15 #[numV b, numV c] (grow (redrawn wz d) os) _ := fun d os => Calls.regrown_of (hrless2.out _)
  have c7 : ∀ d os, Calls Tryd.prog 17 #[numV a, numV c] (grow (redrawn wz d) os) _ := fun d os => Calls.regrown_of (hless2.out _)
  have k0 := cell_regrown p0
  have k1 := cell_regrown p1
  have k2 := cell_regrown p2
  have k3 := cell_regrown p3
  have k4 := cell_regrown p4
  have k5 := cell_regrown p5
  have k6 := cell_regrown p6
  have k7 := cell_regrown p7
  have k8 := cell_regrown p8
  have k9 := cell_regrown p9
  refine wp_region_quiet_below (by kernel_rfl) (by kernel_rfl) ?_
  repeat (quiet_step (first | with_reducible exact c1 _ _ | with_reducible exact c2 _ _ | with_reducible exact c3 _ _ | with_reducible exact c4 _ _ | with_reducible exact c5 _ _ | with_reducible exact c6 _ _ | with_reducible exact c7 _ _))
  refine wpQuiet_nil ?_
  intro w9 hw'
  obtain ⟨pq, hw''⟩ := hw'
  have hw9 : Below wz.heap.size wz w9 := by rw [hw'']; exact below_regrown _ _ _
  clear hw'' k0 k1 k2 k3 k4 k5 k6 k7 k8 k9
  go_wp2
  go_ret
  exact ⟨ret_bool (by decide), hb1.trans (hw9.mono hb1.size)⟩

theorem wideOrder_any (a b c : Nat) (ha : a < big) (hb : b < big) (hc : c < big) (w : World) (hM : Most w) :
    Calls Tryd.prog 4 #[numV a, numV b, numV c] w fun e w' => e = .returned (.bool true) ∧ Below w.heap.size w w' := by
  rcases Nat.lt_trichotomy a b with h | h | h
  · by_cases k : b < c
    · exact wideOrder_lt2 a b c ha hb hc h k w hM
    · exact wideOrder_lt1 a b c ha hb hc h k w hM
  · exact wideOrder_eq a b c ha hb hc h w hM
  · exact wideOrder_gt a b c ha hb hc h w hM
end Go.Proofs.YtddjogbenfkcpaaDoor
