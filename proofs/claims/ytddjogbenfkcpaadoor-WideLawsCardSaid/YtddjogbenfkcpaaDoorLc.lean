/- WideLaws' walk: two cases, for all numbers below 2^128. -/
import Derived.Test.YtddjogbenfkcpaaDoorEq
import Derived.Test.YtddjogbenfkcpaaDoorLa
namespace Go.Proofs.YtddjogbenfkcpaaDoor
open Go.RowKit Go.Sort Wm
attribute [local go_sem high] run_eql_num run_neq_num run_eql_num0

def s3N (a b c : Nat) : Nat := if a + b + c < big then a + b + c else 0
def s3Ok (a b c : Nat) : Bool := decide (a + b + c < big)
theorem sum3N_flat {a b c : Nat} : sum3N a b c = s3N a b c := by
  unfold sum3N s3N
  by_cases h : a + b + c < big
  · rw [if_pos ⟨by omega, h⟩, if_pos h]
  · rw [if_neg (fun k => h k.2), if_neg h]
theorem sum3Ok_flat {a b c : Nat} : sum3Ok a b c = s3Ok a b c := by
  unfold sum3Ok s3Ok
  rw [decide_eq_decide]; omega
theorem sum3N_flat2 {a b c : Nat} : sum3N c a b = s3N a b c := by
  rw [sum3N_flat]; unfold s3N; rw [show c + a + b = a + b + c by omega]
theorem sum3Ok_flat2 {a b c : Nat} : sum3Ok c a b = s3Ok a b c := by
  rw [sum3Ok_flat]; unfold s3Ok; rw [show c + a + b = a + b + c by omega]
theorem sumN_comm {a b : Nat} : sumN b a = sumN a b := by unfold sumN; rw [Nat.add_comm]
theorem sumOk_comm {a b : Nat} : sumOk b a = sumOk a b := by unfold sumOk; rw [Nat.add_comm]
theorem min_comm2 {a b : Nat} : (if a < b then a else b) = if b < a then b else a := by split <;> split <;> omega

set_option maxRecDepth 100000 in
set_option maxHeartbeats 4000000 in
theorem wideLaws_yes (a b c : Nat) (ha : a < big) (hb : b < big) (hc : c < big) (h : a + b < big) (w : World) (hM : Most w) :
    Calls Tryd.prog 8 #[numV a, numV b, numV c] w fun e w' => e = .returned (.bool true) ∧ Below w.heap.size w w' := by
  have hal := Lib.hid (fun w hM => alive_any w hM)
  have hadd := Lib.hid (fun w => by have := add_any a b ha hb w; rw [sumN_yes h, sumOk_yes h] at this; exact this)
  have hadd2 := Lib.hid (fun w => by have := add_any b a hb ha w; rw [sumN_comm, sumOk_comm, sumN_yes h, sumOk_yes h] at this; exact this)
  have hsum := Lib.hid (fun blk w hR hl => by have := sum3_any a b c ha hb hc blk w hR hl; rw [sum3N_flat, sum3Ok_flat] at this; exact this)
  have hsum2 := Lib.hid (fun blk w hR hl => by have := sum3_any c a b hc ha hb blk w hR hl; rw [sum3N_flat2, sum3Ok_flat2] at this; exact this)
  have hmin := Lib.hid (fun w => min_any a b w)
  have hmin2 := Lib.hid (fun w => by have := min_any b a w; rw [min_comm2] at this; exact this)
  have hless := Lib.hid (fun w => by have := less_any (a + b) a w; rw [show lessN (a + b) a = false from decide_eq_false (by omega)] at this; exact this)
  generalize (if b < a then b else a) = m at hmin hmin2
  generalize s3N a b c = s at hsum hsum2
  generalize s3Ok a b c = o at hsum hsum2
  generalize a + b = x at hadd hadd2 hless
  clear h
  go_enter Tryd.func8, Tryd.ntmps8
  go_wp2_with fail
  refine (hal.out _ (hM.later ?_)).mono ?_
  · exact (((Below.refl _ _).alloc (Nat.le_refl _) _).alloc (by simp) _).alloc (by simp; omega) _
  rintro e w1 ⟨rfl, hw1⟩
  have hb1 : Below w.heap.size w w1 := ((((Below.refl _ _).alloc (Nat.le_refl _) _).alloc (by simp) _).alloc (by simp; omega) _).trans (hw1.mono (by simp; omega))
  have hH := ((((show Has w [] from trivial).new2 (.int .u64 ((hiN a : Nat) : Int)) (.int .u64 ((loN a : Nat) : Int)) 24).new2 (.int .u64 ((hiN b : Nat) : Int)) (.int .u64 ((loN b : Nat) : Int)) 24).new2 (.int .u64 ((hiN c : Nat) : Int)) (.int .u64 ((loN c : Nat) : Int)) 24).later hw1
  simp only [World.size_alloc] at hH
  clear hw1 hal ha hb hc
  obtain ⟨⟨p0, q0⟩, ⟨p1, q1⟩, ⟨p2, q2⟩, ⟨p3, q3⟩, ⟨p4, q4⟩, ⟨p5, q5⟩, -⟩ := id hH
  try dsimp only at p0 q0 p1 q1 p2 q2 p3 q3 p4 q4 p5 q5
  go_wp2_with fail
  refine (hadd.out _).mono ?_
  rintro e w2 ⟨rfl, hw2⟩
  replace hH := hH.later hw2
  replace hb1 := hb1.trans (hw2.mono (Below.size hb1))
  clear hw2
  clear p0 q0 p1 q1 p2 q2 p3 q3 p4 q4 p5 q5
  obtain ⟨⟨p0, q0⟩, ⟨p1, q1⟩, ⟨p2, q2⟩, ⟨p3, q3⟩, ⟨p4, q4⟩, ⟨p5, q5⟩, -⟩ := id hH
  try dsimp only at p0 q0 p1 q1 p2 q2 p3 q3 p4 q4 p5 q5
  go_wp2_with fail
  refine (hadd2.out _).mono ?_
  rintro e w3 ⟨rfl, hw3⟩
  replace hH := (hH.new2 _ _ _).later hw3
  replace hb1 := (hb1.alloc (Below.size hb1) _).trans (hw3.mono (Below.size (hb1.alloc (Below.size hb1) _)))
  clear hw3
  clear p0 q0 p1 q1 p2 q2 p3 q3 p4 q4 p5 q5
  obtain ⟨⟨p0, q0⟩, ⟨p1, q1⟩, ⟨p2, q2⟩, ⟨p3, q3⟩, ⟨p4, q4⟩, ⟨p5, q5⟩, ⟨p6, q6⟩, ⟨p7, q7⟩, -⟩ := id hH
  try dsimp only at p0 q0 p1 q1 p2 q2 p3 q3 p4 q4 p5 q5 p6 q6 p7 q7
  go_wp2_with fail
  with_reducible refine (hsum.out (w3.heap.size + 1) _ ?hrow ?hlt).mono ?_
  case hrow => exact rowN3 a b c _ _ (by simp)
  case hlt => simp
  rintro e w4 ⟨rfl, hw4⟩
  replace hH := ((hH.new2 _ _ _).alloc _).later hw4
  replace hb1 := ((hb1.alloc hb1.size _).alloc ((hb1.alloc hb1.size _).size) _).trans (hw4.mono ((hb1.alloc hb1.size _).alloc ((hb1.alloc hb1.size _).size) _).size)
  clear hw4
  clear p0 q0 p1 q1 p2 q2 p3 q3 p4 q4 p5 q5 p6 q6 p7 q7
  obtain ⟨⟨p0, q0⟩, ⟨p1, q1⟩, ⟨p2, q2⟩, ⟨p3, q3⟩, ⟨p4, q4⟩, ⟨p5, q5⟩, ⟨p6, q6⟩, ⟨p7, q7⟩, ⟨p8, q8⟩, ⟨p9, q9⟩, -⟩ := id hH
  try dsimp only at p0 q0 p1 q1 p2 q2 p3 q3 p4 q4 p5 q5 p6 q6 p7 q7 p8 q8 p9 q9
  go_wp2_with fail
  with_reducible refine (hsum2.out (w4.heap.size + 1) _ ?hrow2 ?hlt2).mono ?_
  case hrow2 => exact rowN3 c a b _ _ (by simp)
  case hlt2 => simp
  rintro e w5 ⟨rfl, hw5⟩
  replace hH := ((hH.new2 _ _ _).alloc _).later hw5
  replace hb1 := ((hb1.alloc hb1.size _).alloc ((hb1.alloc hb1.size _).size) _).trans (hw5.mono ((hb1.alloc hb1.size _).alloc ((hb1.alloc hb1.size _).size) _).size)
  clear hw5
  clear p0 q0 p1 q1 p2 q2 p3 q3 p4 q4 p5 q5 p6 q6 p7 q7 p8 q8 p9 q9
  obtain ⟨⟨p0, q0⟩, ⟨p1, q1⟩, ⟨p2, q2⟩, ⟨p3, q3⟩, ⟨p4, q4⟩, ⟨p5, q5⟩, ⟨p6, q6⟩, ⟨p7, q7⟩, ⟨p8, q8⟩, ⟨p9, q9⟩, ⟨p10, q10⟩, ⟨p11, q11⟩, -⟩ := id hH
  try dsimp only at p0 q0 p1 q1 p2 q2 p3 q3 p4 q4 p5 q5 p6 q6 p7 q7 p8 q8 p9 q9 p10 q10 p11 q11
  go_wp2
  replace hH := hH.new2 (.int .u64 ((hiN s : Nat) : Int)) (.int .u64 ((loN s : Nat) : Int)) 24
  replace hb1 := hb1.alloc hb1.size (.cells #[.int .u64 ((hiN s : Nat) : Int), .int .u64 ((loN s : Nat) : Int)] 24)
  clear p0 q0 p1 q1 p2 q2 p3 q3 p4 q4 p5 q5 p6 q6 p7 q7 p8 q8 p9 q9 p10 q10 p11 q11
  obtain ⟨⟨p0, q0⟩, ⟨p1, q1⟩, ⟨p2, q2⟩, ⟨p3, q3⟩, ⟨p4, q4⟩, ⟨p5, q5⟩, ⟨p6, q6⟩, ⟨p7, q7⟩, ⟨p8, q8⟩, ⟨p9, q9⟩, ⟨p10, q10⟩, ⟨p11, q11⟩, ⟨p12, q12⟩, ⟨p13, q13⟩, -⟩ := id hH
  try dsimp only at p0 q0 p1 q1 p2 q2 p3 q3 p4 q4 p5 q5 p6 q6 p7 q7 p8 q8 p9 q9 p10 q10 p11 q11 p12 q12 p13 q13
  generalize w5.alloc (.cells #[.int .u64 ((hiN s : Nat) : Int), .int .u64 ((loN s : Nat) : Int)] 24) = wz at *
  have c1 : ∀ d os, Calls Tryd.prog 18 #[numV a, numV b] (grow (redrawn wz d) os) _ := fun d os => Calls.regrown_of (hmin.out _)
  have c2 : ∀ d os, Calls Tryd.prog 18 #[numV b, numV a] (grow (redrawn wz d) os) _ := fun d os => Calls.regrown_of (hmin2.out _)
  have c3 : ∀ d os, Calls Tryd.prog 17 #[numV x, numV a] (grow (redrawn wz d) os) _ := fun d os => Calls.regrown_of (hless.out _)
  have k0 := cell_regrown p0
  have k1 := cell_regrown p1
  have k2 := cell_regrown p2
  have k3 := cell_regrown p3
  have k4 := cell_regrown p4
  have k5 := cell_regrown p5
  have k6 := cell_regrown p6
  have k7 := cell_regrown p7
  have k8 := cell_regrown p8
  have k9 := cell_regrown p9
  have k10 := cell_regrown p10
  have k11 := cell_regrown p11
  have k12 := cell_regrown p12
  have k13 := cell_regrown p13
  refine wp_region_quiet_below (by kernel_rfl) (by kernel_rfl) ?_
  repeat (quiet_step (first | with_reducible exact c1 _ _ | with_reducible exact c2 _ _ | with_reducible exact c3 _ _))
  refine wpQuiet_nil ?_
  intro w9 hw'
  obtain ⟨pq, hw''⟩ := hw'
  have hw9 : Below wz.heap.size wz w9 := by rw [hw'']; exact below_regrown _ _ _
  clear hw'' k0 k1 k2 k3 k4 k5 k6 k7 k8 k9 k10 k11 k12 k13
  go_wp2
  go_ret
  exact ⟨by first | rfl | simp, hb1.trans (hw9.mono hb1.size)⟩

set_option maxRecDepth 100000 in
set_option maxHeartbeats 4000000 in
theorem wideLaws_no (a b c : Nat) (ha : a < big) (hb : b < big) (hc : c < big) (h : ¬ a + b < big) (w : World) (hM : Most w) :
    Calls Tryd.prog 8 #[numV a, numV b, numV c] w fun e w' => e = .returned (.bool true) ∧ Below w.heap.size w w' := by
  have hal := Lib.hid (fun w hM => alive_any w hM)
  have hadd := Lib.hid (fun w => by have := add_any a b ha hb w; rw [sumN_no h, sumOk_no h] at this; exact this)
  have hadd2 := Lib.hid (fun w => by have := add_any b a hb ha w; rw [sumN_comm, sumOk_comm, sumN_no h, sumOk_no h] at this; exact this)
  have hsum := Lib.hid (fun blk w hR hl => by have := sum3_any a b c ha hb hc blk w hR hl; rw [sum3N_flat, sum3Ok_flat] at this; exact this)
  have hsum2 := Lib.hid (fun blk w hR hl => by have := sum3_any c a b hc ha hb blk w hR hl; rw [sum3N_flat2, sum3Ok_flat2] at this; exact this)
  have hmin := Lib.hid (fun w => min_any a b w)
  have hmin2 := Lib.hid (fun w => by have := min_any b a w; rw [min_comm2] at this; exact this)
  generalize (if b < a then b else a) = m at hmin hmin2
  generalize s3N a b c = s at hsum hsum2
  generalize s3Ok a b c = o at hsum hsum2
  clear h
  go_enter Tryd.func8, Tryd.ntmps8
  go_wp2_with fail
  refine (hal.out _ (hM.later ?_)).mono ?_
  · exact (((Below.refl _ _).alloc (Nat.le_refl _) _).alloc (by simp) _).alloc (by simp; omega) _
  rintro e w1 ⟨rfl, hw1⟩
  have hb1 : Below w.heap.size w w1 := ((((Below.refl _ _).alloc (Nat.le_refl _) _).alloc (by simp) _).alloc (by simp; omega) _).trans (hw1.mono (by simp; omega))
  have hH := ((((show Has w [] from trivial).new2 (.int .u64 ((hiN a : Nat) : Int)) (.int .u64 ((loN a : Nat) : Int)) 24).new2 (.int .u64 ((hiN b : Nat) : Int)) (.int .u64 ((loN b : Nat) : Int)) 24).new2 (.int .u64 ((hiN c : Nat) : Int)) (.int .u64 ((loN c : Nat) : Int)) 24).later hw1
  simp only [World.size_alloc] at hH
  clear hw1 hal ha hb hc
  obtain ⟨⟨p0, q0⟩, ⟨p1, q1⟩, ⟨p2, q2⟩, ⟨p3, q3⟩, ⟨p4, q4⟩, ⟨p5, q5⟩, -⟩ := id hH
  try dsimp only at p0 q0 p1 q1 p2 q2 p3 q3 p4 q4 p5 q5
  go_wp2_with fail
  refine (hadd.out _).mono ?_
  rintro e w2 ⟨rfl, hw2⟩
  replace hH := hH.later hw2
  replace hb1 := hb1.trans (hw2.mono (Below.size hb1))
  clear hw2
  clear p0 q0 p1 q1 p2 q2 p3 q3 p4 q4 p5 q5
  obtain ⟨⟨p0, q0⟩, ⟨p1, q1⟩, ⟨p2, q2⟩, ⟨p3, q3⟩, ⟨p4, q4⟩, ⟨p5, q5⟩, -⟩ := id hH
  try dsimp only at p0 q0 p1 q1 p2 q2 p3 q3 p4 q4 p5 q5
  go_wp2_with fail
  refine (hadd2.out _).mono ?_
  rintro e w3 ⟨rfl, hw3⟩
  replace hH := (hH.new2 _ _ _).later hw3
  replace hb1 := (hb1.alloc (Below.size hb1) _).trans (hw3.mono (Below.size (hb1.alloc (Below.size hb1) _)))
  clear hw3
  clear p0 q0 p1 q1 p2 q2 p3 q3 p4 q4 p5 q5
  obtain ⟨⟨p0, q0⟩, ⟨p1, q1⟩, ⟨p2, q2⟩, ⟨p3, q3⟩, ⟨p4, q4⟩, ⟨p5, q5⟩, ⟨p6, q6⟩, ⟨p7, q7⟩, -⟩ := id hH
  try dsimp only at p0 q0 p1 q1 p2 q2 p3 q3 p4 q4 p5 q5 p6 q6 p7 q7
  go_wp2_with fail
  with_reducible refine (hsum.out (w3.heap.size + 1) _ ?hrow ?hlt).mono ?_
  case hrow => exact rowN3 a b c _ _ (by simp)
  case hlt => simp
  rintro e w4 ⟨rfl, hw4⟩
  replace hH := ((hH.new2 _ _ _).alloc _).later hw4
  replace hb1 := ((hb1.alloc hb1.size _).alloc ((hb1.alloc hb1.size _).size) _).trans (hw4.mono ((hb1.alloc hb1.size _).alloc ((hb1.alloc hb1.size _).size) _).size)
  clear hw4
  clear p0 q0 p1 q1 p2 q2 p3 q3 p4 q4 p5 q5 p6 q6 p7 q7
  obtain ⟨⟨p0, q0⟩, ⟨p1, q1⟩, ⟨p2, q2⟩, ⟨p3, q3⟩, ⟨p4, q4⟩, ⟨p5, q5⟩, ⟨p6, q6⟩, ⟨p7, q7⟩, ⟨p8, q8⟩, ⟨p9, q9⟩, -⟩ := id hH
  try dsimp only at p0 q0 p1 q1 p2 q2 p3 q3 p4 q4 p5 q5 p6 q6 p7 q7 p8 q8 p9 q9
  go_wp2_with fail
  with_reducible refine (hsum2.out (w4.heap.size + 1) _ ?hrow2 ?hlt2).mono ?_
  case hrow2 => exact rowN3 c a b _ _ (by simp)
  case hlt2 => simp
  rintro e w5 ⟨rfl, hw5⟩
  replace hH := ((hH.new2 _ _ _).alloc _).later hw5
  replace hb1 := ((hb1.alloc hb1.size _).alloc ((hb1.alloc hb1.size _).size) _).trans (hw5.mono ((hb1.alloc hb1.size _).alloc ((hb1.alloc hb1.size _).size) _).size)
  clear hw5
  clear p0 q0 p1 q1 p2 q2 p3 q3 p4 q4 p5 q5 p6 q6 p7 q7 p8 q8 p9 q9
  obtain ⟨⟨p0, q0⟩, ⟨p1, q1⟩, ⟨p2, q2⟩, ⟨p3, q3⟩, ⟨p4, q4⟩, ⟨p5, q5⟩, ⟨p6, q6⟩, ⟨p7, q7⟩, ⟨p8, q8⟩, ⟨p9, q9⟩, ⟨p10, q10⟩, ⟨p11, q11⟩, -⟩ := id hH
  try dsimp only at p0 q0 p1 q1 p2 q2 p3 q3 p4 q4 p5 q5 p6 q6 p7 q7 p8 q8 p9 q9 p10 q10 p11 q11
  go_wp2
  replace hH := hH.new2 (.int .u64 ((hiN s : Nat) : Int)) (.int .u64 ((loN s : Nat) : Int)) 24
  replace hb1 := hb1.alloc hb1.size (.cells #[.int .u64 ((hiN s : Nat) : Int), .int .u64 ((loN s : Nat) : Int)] 24)
  clear p0 q0 p1 q1 p2 q2 p3 q3 p4 q4 p5 q5 p6 q6 p7 q7 p8 q8 p9 q9 p10 q10 p11 q11
  obtain ⟨⟨p0, q0⟩, ⟨p1, q1⟩, ⟨p2, q2⟩, ⟨p3, q3⟩, ⟨p4, q4⟩, ⟨p5, q5⟩, ⟨p6, q6⟩, ⟨p7, q7⟩, ⟨p8, q8⟩, ⟨p9, q9⟩, ⟨p10, q10⟩, ⟨p11, q11⟩, ⟨p12, q12⟩, ⟨p13, q13⟩, -⟩ := id hH
  try dsimp only at p0 q0 p1 q1 p2 q2 p3 q3 p4 q4 p5 q5 p6 q6 p7 q7 p8 q8 p9 q9 p10 q10 p11 q11 p12 q12 p13 q13
  generalize w5.alloc (.cells #[.int .u64 ((hiN s : Nat) : Int), .int .u64 ((loN s : Nat) : Int)] 24) = wz at *
  have c1 : ∀ d os, Calls Tryd.prog 18 #[numV a, numV b] (grow (redrawn wz d) os) _ := fun d os => Calls.regrown_of (hmin.out _)
  have c2 : ∀ d os, Calls Tryd.prog 18 #[numV b, numV a] (grow (redrawn wz d) os) _ := fun d os => Calls.regrown_of (hmin2.out _)
  have k0 := cell_regrown p0
  have k1 := cell_regrown p1
  have k2 := cell_regrown p2
  have k3 := cell_regrown p3
  have k4 := cell_regrown p4
  have k5 := cell_regrown p5
  have k6 := cell_regrown p6
  have k7 := cell_regrown p7
  have k8 := cell_regrown p8
  have k9 := cell_regrown p9
  have k10 := cell_regrown p10
  have k11 := cell_regrown p11
  have k12 := cell_regrown p12
  have k13 := cell_regrown p13
  refine wp_region_quiet_below (by kernel_rfl) (by kernel_rfl) ?_
  repeat (quiet_step (first | with_reducible exact c1 _ _ | with_reducible exact c2 _ _))
  refine wpQuiet_nil ?_
  intro w9 hw'
  obtain ⟨pq, hw''⟩ := hw'
  have hw9 : Below wz.heap.size wz w9 := by rw [hw'']; exact below_regrown _ _ _
  clear hw'' k0 k1 k2 k3 k4 k5 k6 k7 k8 k9 k10 k11 k12 k13
  go_wp2
  go_ret
  exact ⟨by first | rfl | simp, hb1.trans (hw9.mono hb1.size)⟩

theorem wideLaws_any (a b c : Nat) (ha : a < big) (hb : b < big) (hc : c < big) (w : World) (hM : Most w) :
    Calls Tryd.prog 8 #[numV a, numV b, numV c] w fun e w' => e = .returned (.bool true) ∧ Below w.heap.size w w' := by
  by_cases h : a + b < big
  · exact wideLaws_yes a b c ha hb hc h w hM
  · exact wideLaws_no a b c ha hb hc h w hM
end Go.Proofs.YtddjogbenfkcpaaDoor
