/- WideSums' walk: for all numbers below 2^128. -/
import Derived.Test.YtddjogbenfkcpaaDoorWf
import Derived.Test.YtddjogbenfkcpaaDoorHas
namespace Go.Proofs.YtddjogbenfkcpaaDoor
open Go.RowKit Go.Sort Wm

/-- What the law's third sum comes to. -/
def sum3N (a b c : Nat) : Nat := if a + b < big ∧ a + b + c < big then a + b + c else 0
def sum3Ok (a b c : Nat) : Bool := decide (a + b < big ∧ a + b + c < big)
theorem sums3 (a b c : Nat) (ha : a < big) : (sumsN [a, b, c] 0).getD 0 = sum3N a b c ∧ (sumsN [a, b, c] 0).isSome = sum3Ok a b c := by
  unfold sum3N sum3Ok
  simp only [sumsN, Nat.zero_add, if_pos ha]
  by_cases h1 : a + b < big
  · by_cases h2 : a + b + c < big
    · simp [h1, h2]
    · simp [h1, h2]
  · simp [h1]
theorem sum3_any (a b c : Nat) (ha : a < big) (hb : b < big) (hc : c < big) (blk : Nat) (w : World) (hR : RowN w blk [a, b, c]) (hlt : blk < w.heap.size) :
    Calls Tryd.prog 14 #[.slice (some ⟨blk, 0, none⟩) 3 3] w fun e w' => e = .returned (.tuple #[numV (sum3N a b c), .bool (sum3Ok a b c)]) ∧ Below w.heap.size w w' := by
  have := sum_any [a, b, c] blk (by simp [ha, hb, hc]) (by simp) w hR hlt
  rw [(sums3 a b c ha).1, (sums3 a b c ha).2] at this
  exact this
theorem rowN3 (a b c : Nat) (w : World) (m : Nat) (hm : m = w.heap.size) : RowN (w.alloc (.cells #[.int .u64 ((hiN a : Nat) : Int), .int .u64 ((loN a : Nat) : Int), .int .u64 ((hiN b : Nat) : Int), .int .u64 ((loN b : Nat) : Int), .int .u64 ((hiN c : Nat) : Int), .int .u64 ((loN c : Nat) : Int)] 24)) m [a, b, c] := by
  subst hm
  intro j hj
  have : j = 0 ∨ j = 1 ∨ j = 2 := by simp at hj; omega
  rcases this with rfl | rfl | rfl <;> constructor <;> simp [go_sem]

set_option maxRecDepth 100000 in
set_option maxHeartbeats 4000000 in
theorem wideSums_any (a b c : Nat) (ha : a < big) (hb : b < big) (hc : c < big) (w : World) (hM : Most w) :
    Calls Tryd.prog 3 #[numV a, numV b, numV c] w fun e w' => e = .returned (.bool true) ∧ Below w.heap.size w w' := by
  have hal := Lib.hid (fun w hM => alive_any w hM)
  have hadd := Lib.hid (fun w => add_any a b ha hb w)
  have hradd := Lib.hid (fun w => refadd_any a b ha hb w)
  have hsub := Lib.hid (fun w => sub_any a b ha hb w)
  have hrsub := Lib.hid (fun w => refsub_any a b ha hb w)
  go_enter Tryd.func3, Tryd.ntmps3
  go_wp2_with fail
  refine (hal.out _ (hM.later ?_)).mono ?_
  · exact (((Below.refl _ _).alloc (Nat.le_refl _) _).alloc (by simp) _).alloc (by simp; omega) _
  rintro e w1 ⟨rfl, hw1⟩
  have hb1 : Below w.heap.size w w1 := ((((Below.refl _ _).alloc (Nat.le_refl _) _).alloc (by simp) _).alloc (by simp; omega) _).trans (hw1.mono (by simp; omega))
  have hH := ((((show Has w [] from trivial).new2 (.int .u64 ((hiN a : Nat) : Int)) (.int .u64 ((loN a : Nat) : Int)) 24).new2 (.int .u64 ((hiN b : Nat) : Int)) (.int .u64 ((loN b : Nat) : Int)) 24).new2 (.int .u64 ((hiN c : Nat) : Int)) (.int .u64 ((loN c : Nat) : Int)) 24).later hw1
  simp only [World.size_alloc] at hH
  clear hw1
  obtain ⟨⟨p0, q0⟩, ⟨p1, q1⟩, ⟨p2, q2⟩, ⟨p3, q3⟩, ⟨p4, q4⟩, ⟨p5, q5⟩, -⟩ := id hH
  try dsimp only at p0 q0 p1 q1 p2 q2 p3 q3 p4 q4 p5 q5
  go_wp2_with fail
  refine (hadd.out _).mono ?_
  rintro e w2 ⟨rfl, hw2⟩
  replace hH := hH.later hw2
  replace hb1 := hb1.trans (hw2.mono (Below.size hb1))
  clear hw2
  clear p0 q0 p1 q1 p2 q2 p3 q3 p4 q4 p5 q5
  obtain ⟨⟨p0, q0⟩, ⟨p1, q1⟩, ⟨p2, q2⟩, ⟨p3, q3⟩, ⟨p4, q4⟩, ⟨p5, q5⟩, -⟩ := id hH
  try dsimp only at p0 q0 p1 q1 p2 q2 p3 q3 p4 q4 p5 q5
  go_wp2_with fail
  refine (hradd.out _).mono ?_
  rintro e w3 ⟨rfl, hw3⟩
  replace hH := (hH.new2 _ _ _).later hw3
  replace hb1 := (hb1.alloc (Below.size hb1) _).trans (hw3.mono (Below.size (hb1.alloc (Below.size hb1) _)))
  clear hw3
  clear p0 q0 p1 q1 p2 q2 p3 q3 p4 q4 p5 q5
  obtain ⟨⟨p0, q0⟩, ⟨p1, q1⟩, ⟨p2, q2⟩, ⟨p3, q3⟩, ⟨p4, q4⟩, ⟨p5, q5⟩, ⟨p6, q6⟩, ⟨p7, q7⟩, -⟩ := id hH
  try dsimp only at p0 q0 p1 q1 p2 q2 p3 q3 p4 q4 p5 q5 p6 q6 p7 q7
  go_wp2_with fail
  refine (hsub.out _).mono ?_
  rintro e w4 ⟨rfl, hw4⟩
  replace hH := (hH.new2 _ _ _).later hw4
  replace hb1 := (hb1.alloc (Below.size hb1) _).trans (hw4.mono (Below.size (hb1.alloc (Below.size hb1) _)))
  clear hw4
  clear p0 q0 p1 q1 p2 q2 p3 q3 p4 q4 p5 q5 p6 q6 p7 q7
  obtain ⟨⟨p0, q0⟩, ⟨p1, q1⟩, ⟨p2, q2⟩, ⟨p3, q3⟩, ⟨p4, q4⟩, ⟨p5, q5⟩, ⟨p6, q6⟩, ⟨p7, q7⟩, ⟨p8, q8⟩, ⟨p9, q9⟩, -⟩ := id hH
  try dsimp only at p0 q0 p1 q1 p2 q2 p3 q3 p4 q4 p5 q5 p6 q6 p7 q7 p8 q8 p9 q9
  go_wp2_with fail
  refine (hrsub.out _).mono ?_
  rintro e w5 ⟨rfl, hw5⟩
  replace hH := (hH.new2 _ _ _).later hw5
  replace hb1 := (hb1.alloc (Below.size hb1) _).trans (hw5.mono (Below.size (hb1.alloc (Below.size hb1) _)))
  clear hw5
  clear p0 q0 p1 q1 p2 q2 p3 q3 p4 q4 p5 q5 p6 q6 p7 q7 p8 q8 p9 q9
  obtain ⟨⟨p0, q0⟩, ⟨p1, q1⟩, ⟨p2, q2⟩, ⟨p3, q3⟩, ⟨p4, q4⟩, ⟨p5, q5⟩, ⟨p6, q6⟩, ⟨p7, q7⟩, ⟨p8, q8⟩, ⟨p9, q9⟩, ⟨p10, q10⟩, ⟨p11, q11⟩, -⟩ := id hH
  try dsimp only at p0 q0 p1 q1 p2 q2 p3 q3 p4 q4 p5 q5 p6 q6 p7 q7 p8 q8 p9 q9 p10 q10 p11 q11
  go_wp2_with fail
  by_cases h1 : a + b < big
  · by_cases h2 : a + b + c < big
    · have hsum := Lib.hid (fun blk w hR hl => by have := sum3_any a b c ha hb hc blk w hR hl; rw [show sum3N a b c = a + b + c from if_pos ⟨h1, h2⟩, show sum3Ok a b c = true from decide_eq_true ⟨h1, h2⟩] at this; exact this)
      have hradd2 := Lib.hid (fun w => by have := refadd_any (a + b) c h1 hc w; rw [sumN_yes h2, sumOk_yes h2] at this; exact this)
      have hsub2 := Lib.hid (fun w => by have := sub_any (a + b) b h1 hb w; rw [difN_yes (by omega), difOk_yes (by omega), Nat.add_sub_cancel] at this; exact this)
      rw [sumN_yes h1, sumOk_yes h1]
      rw [sumN_yes h1] at hH
      clear h1 h2 hal hadd hradd hsub hrsub
      with_reducible refine (hsum.out (w5.heap.size + 1) _ ?hrow ?hlt).mono ?_
      case hrow => exact rowN3 a b c _ _ (by simp)
      case hlt => simp
      rintro e w6 ⟨rfl, hw6⟩
      replace hH := ((hH.new2 _ _ _).alloc _).later hw6
      replace hb1 := ((hb1.alloc hb1.size _).alloc ((hb1.alloc hb1.size _).size) _).trans (hw6.mono ((hb1.alloc hb1.size _).alloc ((hb1.alloc hb1.size _).size) _).size)
      clear hw6
      clear p0 q0 p1 q1 p2 q2 p3 q3 p4 q4 p5 q5 p6 q6 p7 q7 p8 q8 p9 q9 p10 q10 p11 q11
      obtain ⟨⟨p0, q0⟩, ⟨p1, q1⟩, ⟨p2, q2⟩, ⟨p3, q3⟩, ⟨p4, q4⟩, ⟨p5, q5⟩, ⟨p6, q6⟩, ⟨p7, q7⟩, ⟨p8, q8⟩, ⟨p9, q9⟩, ⟨p10, q10⟩, ⟨p11, q11⟩, ⟨p12, q12⟩, ⟨p13, q13⟩, -⟩ := id hH
      try dsimp only at p0 q0 p1 q1 p2 q2 p3 q3 p4 q4 p5 q5 p6 q6 p7 q7 p8 q8 p9 q9 p10 q10 p11 q11 p12 q12 p13 q13
      go_wp2_with fail
      refine (hradd2.out _).mono ?_
      rintro e w7 ⟨rfl, hw7⟩
      replace hH := (hH.new2 _ _ _).later hw7
      replace hb1 := (hb1.alloc (Below.size hb1) _).trans (hw7.mono (Below.size (hb1.alloc (Below.size hb1) _)))
      clear hw7
      clear p0 q0 p1 q1 p2 q2 p3 q3 p4 q4 p5 q5 p6 q6 p7 q7 p8 q8 p9 q9 p10 q10 p11 q11 p12 q12 p13 q13
      obtain ⟨⟨p0, q0⟩, ⟨p1, q1⟩, ⟨p2, q2⟩, ⟨p3, q3⟩, ⟨p4, q4⟩, ⟨p5, q5⟩, ⟨p6, q6⟩, ⟨p7, q7⟩, ⟨p8, q8⟩, ⟨p9, q9⟩, ⟨p10, q10⟩, ⟨p11, q11⟩, ⟨p12, q12⟩, ⟨p13, q13⟩, ⟨p14, q14⟩, ⟨p15, q15⟩, -⟩ := id hH
      try dsimp only at p0 q0 p1 q1 p2 q2 p3 q3 p4 q4 p5 q5 p6 q6 p7 q7 p8 q8 p9 q9 p10 q10 p11 q11 p12 q12 p13 q13 p14 q14 p15 q15
      go_wp2_with fail
      refine (hsub2.out _).mono ?_
      rintro e w8 ⟨rfl, hw8⟩
      replace hH := (hH.new2 _ _ _).later hw8
      replace hb1 := (hb1.alloc (Below.size hb1) _).trans (hw8.mono (Below.size (hb1.alloc (Below.size hb1) _)))
      clear hw8
      clear p0 q0 p1 q1 p2 q2 p3 q3 p4 q4 p5 q5 p6 q6 p7 q7 p8 q8 p9 q9 p10 q10 p11 q11 p12 q12 p13 q13 p14 q14 p15 q15
      obtain ⟨⟨p0, q0⟩, ⟨p1, q1⟩, ⟨p2, q2⟩, ⟨p3, q3⟩, ⟨p4, q4⟩, ⟨p5, q5⟩, ⟨p6, q6⟩, ⟨p7, q7⟩, ⟨p8, q8⟩, ⟨p9, q9⟩, ⟨p10, q10⟩, ⟨p11, q11⟩, ⟨p12, q12⟩, ⟨p13, q13⟩, ⟨p14, q14⟩, ⟨p15, q15⟩, ⟨p16, q16⟩, ⟨p17, q17⟩, -⟩ := id hH
      try dsimp only at p0 q0 p1 q1 p2 q2 p3 q3 p4 q4 p5 q5 p6 q6 p7 q7 p8 q8 p9 q9 p10 q10 p11 q11 p12 q12 p13 q13 p14 q14 p15 q15 p16 q16 p17 q17
      go_wp2
      go_ret
      exact ⟨rfl, hb1.alloc hb1.size _⟩
    · have hsum := Lib.hid (fun blk w hR hl => by have := sum3_any a b c ha hb hc blk w hR hl; rw [show sum3N a b c = 0 from if_neg (fun h => h2 h.2), show sum3Ok a b c = false from decide_eq_false (fun h => h2 h.2)] at this; exact this)
      have hradd2 := Lib.hid (fun w => by have := refadd_any (a + b) c h1 hc w; rw [sumN_no h2, sumOk_no h2] at this; exact this)
      have hsub2 := Lib.hid (fun w => by have := sub_any (a + b) b h1 hb w; rw [difN_yes (by omega), difOk_yes (by omega), Nat.add_sub_cancel] at this; exact this)
      rw [sumN_yes h1, sumOk_yes h1]
      rw [sumN_yes h1] at hH
      clear h1 h2 hal hadd hradd hsub hrsub
      with_reducible refine (hsum.out (w5.heap.size + 1) _ ?hrow ?hlt).mono ?_
      case hrow => exact rowN3 a b c _ _ (by simp)
      case hlt => simp
      rintro e w6 ⟨rfl, hw6⟩
      replace hH := ((hH.new2 _ _ _).alloc _).later hw6
      replace hb1 := ((hb1.alloc hb1.size _).alloc ((hb1.alloc hb1.size _).size) _).trans (hw6.mono ((hb1.alloc hb1.size _).alloc ((hb1.alloc hb1.size _).size) _).size)
      clear hw6
      clear p0 q0 p1 q1 p2 q2 p3 q3 p4 q4 p5 q5 p6 q6 p7 q7 p8 q8 p9 q9 p10 q10 p11 q11
      obtain ⟨⟨p0, q0⟩, ⟨p1, q1⟩, ⟨p2, q2⟩, ⟨p3, q3⟩, ⟨p4, q4⟩, ⟨p5, q5⟩, ⟨p6, q6⟩, ⟨p7, q7⟩, ⟨p8, q8⟩, ⟨p9, q9⟩, ⟨p10, q10⟩, ⟨p11, q11⟩, ⟨p12, q12⟩, ⟨p13, q13⟩, -⟩ := id hH
      try dsimp only at p0 q0 p1 q1 p2 q2 p3 q3 p4 q4 p5 q5 p6 q6 p7 q7 p8 q8 p9 q9 p10 q10 p11 q11 p12 q12 p13 q13
      go_wp2_with fail
      refine (hradd2.out _).mono ?_
      rintro e w7 ⟨rfl, hw7⟩
      replace hH := (hH.new2 _ _ _).later hw7
      replace hb1 := (hb1.alloc (Below.size hb1) _).trans (hw7.mono (Below.size (hb1.alloc (Below.size hb1) _)))
      clear hw7
      clear p0 q0 p1 q1 p2 q2 p3 q3 p4 q4 p5 q5 p6 q6 p7 q7 p8 q8 p9 q9 p10 q10 p11 q11 p12 q12 p13 q13
      obtain ⟨⟨p0, q0⟩, ⟨p1, q1⟩, ⟨p2, q2⟩, ⟨p3, q3⟩, ⟨p4, q4⟩, ⟨p5, q5⟩, ⟨p6, q6⟩, ⟨p7, q7⟩, ⟨p8, q8⟩, ⟨p9, q9⟩, ⟨p10, q10⟩, ⟨p11, q11⟩, ⟨p12, q12⟩, ⟨p13, q13⟩, ⟨p14, q14⟩, ⟨p15, q15⟩, -⟩ := id hH
      try dsimp only at p0 q0 p1 q1 p2 q2 p3 q3 p4 q4 p5 q5 p6 q6 p7 q7 p8 q8 p9 q9 p10 q10 p11 q11 p12 q12 p13 q13 p14 q14 p15 q15
      go_wp2_with fail
      refine (hsub2.out _).mono ?_
      rintro e w8 ⟨rfl, hw8⟩
      replace hH := (hH.new2 _ _ _).later hw8
      replace hb1 := (hb1.alloc (Below.size hb1) _).trans (hw8.mono (Below.size (hb1.alloc (Below.size hb1) _)))
      clear hw8
      clear p0 q0 p1 q1 p2 q2 p3 q3 p4 q4 p5 q5 p6 q6 p7 q7 p8 q8 p9 q9 p10 q10 p11 q11 p12 q12 p13 q13 p14 q14 p15 q15
      obtain ⟨⟨p0, q0⟩, ⟨p1, q1⟩, ⟨p2, q2⟩, ⟨p3, q3⟩, ⟨p4, q4⟩, ⟨p5, q5⟩, ⟨p6, q6⟩, ⟨p7, q7⟩, ⟨p8, q8⟩, ⟨p9, q9⟩, ⟨p10, q10⟩, ⟨p11, q11⟩, ⟨p12, q12⟩, ⟨p13, q13⟩, ⟨p14, q14⟩, ⟨p15, q15⟩, ⟨p16, q16⟩, ⟨p17, q17⟩, -⟩ := id hH
      try dsimp only at p0 q0 p1 q1 p2 q2 p3 q3 p4 q4 p5 q5 p6 q6 p7 q7 p8 q8 p9 q9 p10 q10 p11 q11 p12 q12 p13 q13 p14 q14 p15 q15 p16 q16 p17 q17
      go_wp2
      go_ret
      exact ⟨rfl, hb1.alloc hb1.size _⟩
  · have hsum := Lib.hid (fun blk w hR hl => by have := sum3_any a b c ha hb hc blk w hR hl; rw [show sum3N a b c = 0 from if_neg (fun h => h1 h.1), show sum3Ok a b c = false from decide_eq_false (fun h => h1 h.1)] at this; exact this)
    have hradd2 := Lib.hid (fun w => refadd_any 0 c (by rw [big_eq]; omega) hc w)
    rw [sumN_no h1, sumOk_no h1]
    rw [sumN_no h1] at hH
    clear h1 hal hadd hradd hsub hrsub
    with_reducible refine (hsum.out (w5.heap.size + 1) _ ?hrow ?hlt).mono ?_
    case hrow => exact rowN3 a b c _ _ (by simp)
    case hlt => simp
    rintro e w6 ⟨rfl, hw6⟩
    replace hH := ((hH.new2 _ _ _).alloc _).later hw6
    replace hb1 := ((hb1.alloc hb1.size _).alloc ((hb1.alloc hb1.size _).size) _).trans (hw6.mono ((hb1.alloc hb1.size _).alloc ((hb1.alloc hb1.size _).size) _).size)
    clear hw6
    clear p0 q0 p1 q1 p2 q2 p3 q3 p4 q4 p5 q5 p6 q6 p7 q7 p8 q8 p9 q9 p10 q10 p11 q11
    obtain ⟨⟨p0, q0⟩, ⟨p1, q1⟩, ⟨p2, q2⟩, ⟨p3, q3⟩, ⟨p4, q4⟩, ⟨p5, q5⟩, ⟨p6, q6⟩, ⟨p7, q7⟩, ⟨p8, q8⟩, ⟨p9, q9⟩, ⟨p10, q10⟩, ⟨p11, q11⟩, ⟨p12, q12⟩, ⟨p13, q13⟩, -⟩ := id hH
    try dsimp only at p0 q0 p1 q1 p2 q2 p3 q3 p4 q4 p5 q5 p6 q6 p7 q7 p8 q8 p9 q9 p10 q10 p11 q11 p12 q12 p13 q13
    go_wp2_with fail
    refine (hradd2.out _).mono ?_
    rintro e w7 ⟨rfl, hw7⟩
    replace hH := (hH.new2 _ _ _).later hw7
    replace hb1 := (hb1.alloc (Below.size hb1) _).trans (hw7.mono (Below.size (hb1.alloc (Below.size hb1) _)))
    clear hw7
    clear p0 q0 p1 q1 p2 q2 p3 q3 p4 q4 p5 q5 p6 q6 p7 q7 p8 q8 p9 q9 p10 q10 p11 q11 p12 q12 p13 q13
    obtain ⟨⟨p0, q0⟩, ⟨p1, q1⟩, ⟨p2, q2⟩, ⟨p3, q3⟩, ⟨p4, q4⟩, ⟨p5, q5⟩, ⟨p6, q6⟩, ⟨p7, q7⟩, ⟨p8, q8⟩, ⟨p9, q9⟩, ⟨p10, q10⟩, ⟨p11, q11⟩, ⟨p12, q12⟩, ⟨p13, q13⟩, ⟨p14, q14⟩, ⟨p15, q15⟩, -⟩ := id hH
    try dsimp only at p0 q0 p1 q1 p2 q2 p3 q3 p4 q4 p5 q5 p6 q6 p7 q7 p8 q8 p9 q9 p10 q10 p11 q11 p12 q12 p13 q13 p14 q14 p15 q15
    go_wp2
    go_ret
    exact ⟨rfl, hb1.alloc hb1.size _⟩
end Go.Proofs.YtddjogbenfkcpaaDoor
