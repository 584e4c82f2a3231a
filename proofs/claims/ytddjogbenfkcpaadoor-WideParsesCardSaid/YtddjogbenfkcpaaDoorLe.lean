/- WideShows' walk: for all numbers below 2^128. -/
import Derived.Test.YtddjogbenfkcpaaDoorEq
import Derived.Test.YtddjogbenfkcpaaDoorSa
import Derived.Test.YtddjogbenfkcpaaDoorPb
namespace Go.Proofs.YtddjogbenfkcpaaDoor
open Go.RowKit Go.Sort Wm
attribute [local go_sem high] run_eql_num run_neq_num run_eql_num0

theorem next_dec (n k : Nat) (hn : n < big) : nextN (n / 10 ^ (k + 1)) (digB (n / 10 ^ k)).toNat = some (n / 10 ^ k) := by
  have e : n / 10 ^ (k + 1) = n / 10 ^ k / 10 := by rw [Nat.pow_succ, Nat.div_div_eq_div_mul]
  have hle : n / 10 ^ k ≤ n := Nat.div_le_self _ _
  rw [digB_toNat, e]
  unfold nextN
  have e2 : n / 10 ^ k / 10 * 10 + (48 + n / 10 ^ k % 10 - 48) = n / 10 ^ k := by omega
  rw [e2, if_pos ⟨by omega, by omega, by omega⟩]
theorem parse_dec (n : Nat) (hn : n < big) : ∀ k, parseL (decN k n) (n / 10 ^ k) = some n
  | 0 => by simp [decN, parseL]
  | k + 1 => by
    rw [decN, parseL, next_dec n k hn]
    exact parse_dec n hn k
theorem parse_show (n : Nat) (hn : n < big) : parseL (showN n).data.toList 0 = some n := by
  have h := parse_dec n hn (ndN n)
  rw [Nat.div_eq_of_lt (ndN_len n hn).2.2.1] at h
  exact h
theorem showN_size (n : Nat) : (showN n).size = ndN n := by
  show (decN (ndN n) n).toArray.size = _
  simp [decN_length]
theorem showN_get (n : Nat) (h : 0 < (showN n).size) : (showN n)[0].toNat = 48 + n / 10 ^ (ndN n - 1) % 10 := by
  have h2 : 0 < ndN n := by rw [← showN_size]; exact h
  have e := decN_at n (ndN n) 0 h2
  have e2 : (showN n)[0] = (decN (ndN n) n)[0]'(by rw [decN_length]; exact h2) := rfl
  rw [e2, ← digB_toNat]
  congr 1
  have := (List.getElem?_eq_some_iff.1 e).2
  rw [this, Nat.sub_zero]
theorem show_head (n : Nat) (hn : n < big) (h : 0 < (showN n).size) : (showN n)[0].toNat ≠ 48 ∨ (showN n).size = 1 := by
  obtain ⟨a1, a2, a3, a4⟩ := ndN_len n hn
  rcases a4 with a4 | a4
  · right; rw [showN_size]; exact a4
  · left
    rw [showN_get n h]
    have hp : 0 < 10 ^ (ndN n - 1) := Nat.pow_pos (by omega)
    have h1 : 1 ≤ n / 10 ^ (ndN n - 1) := (Nat.le_div_iff_mul_le hp).2 (by omega)
    have h2 : n / 10 ^ (ndN n - 1) < 10 := by
      rw [Nat.div_lt_iff_lt_mul hp, Nat.mul_comm, ← Nat.pow_succ, show (ndN n - 1).succ = ndN n by omega]; exact a3
    omega
theorem parse_again (n : Nat) (hn : n < big) (w : World) :
    Calls Tryd.prog 24 #[.string (showN n)] w fun e w' => e = .returned (.tuple #[numV n, .int .i64 0]) ∧ Below w.heap.size w w' := by
  have hl := ndN_len n hn
  have h := parse_loop (showN n) (by rw [showN_size]; omega) (by rw [showN_size]; omega) (show_head n hn _) w
  rw [parse_show n hn] at h
  exact h

set_option maxRecDepth 100000 in
set_option maxHeartbeats 4000000 in
theorem wideShows_any (a : Nat) (ha : a < big) (w : World) (hM : Most w) :
    Calls Tryd.prog 6 #[numV a] w fun e w' => e = .returned (.bool true) ∧ Below w.heap.size w w' := by
  have hal := Lib.hid (fun w hM => alive_any w hM)
  have hsh := Lib.hid (fun w => show_any a ha w)
  have hpa := Lib.hid (fun w => parse_again a ha w)
  have hrs := Lib.hid (fun w => refshow_any a ha w)
  have hof := Lib.hid (fun w => of_any (loN a) w)
  generalize showN a = tx at *
  go_enter Tryd.func6, Tryd.ntmps6
  go_wp2_with fail
  refine (hal.out _ (hM.later ?_)).mono ?_
  · exact (Below.refl _ _).alloc (Nat.le_refl _) _
  rintro e w1 ⟨rfl, hw1⟩
  have hb1 : Below w.heap.size w w1 := ((Below.refl _ _).alloc (Nat.le_refl _) _).trans (hw1.mono (by simp))
  have hH := ((show Has w [] from trivial).new2 (.int .u64 ((hiN a : Nat) : Int)) (.int .u64 ((loN a : Nat) : Int)) 24).later hw1
  clear hw1 hal ha
  obtain ⟨⟨p0, q0⟩, ⟨p1, q1⟩, -⟩ := id hH
  try dsimp only at p0 q0 p1 q1
  go_wp2_with fail
  refine (hsh.out _).mono ?_
  rintro e w2 ⟨rfl, hw2⟩
  replace hH := hH.later hw2
  replace hb1 := hb1.trans (hw2.mono (Below.size hb1))
  clear hw2
  clear p0 q0 p1 q1
  obtain ⟨⟨p0, q0⟩, ⟨p1, q1⟩, -⟩ := id hH
  try dsimp only at p0 q0 p1 q1
  go_wp2_with fail
  refine (hpa.out _).mono ?_
  rintro e w3 ⟨rfl, hw3⟩
  replace hH := hH.later hw3
  replace hb1 := hb1.trans (hw3.mono (Below.size hb1))
  clear hw3
  clear p0 q0 p1 q1
  obtain ⟨⟨p0, q0⟩, ⟨p1, q1⟩, -⟩ := id hH
  try dsimp only at p0 q0 p1 q1
  go_wp2
  replace hH := hH.new2 (.int .u64 ((hiN a : Nat) : Int)) (.int .u64 ((loN a : Nat) : Int)) 24
  replace hb1 := hb1.alloc hb1.size (.cells #[.int .u64 ((hiN a : Nat) : Int), .int .u64 ((loN a : Nat) : Int)] 24)
  clear p0 q0 p1 q1
  obtain ⟨⟨p0, q0⟩, ⟨p1, q1⟩, ⟨p2, q2⟩, ⟨p3, q3⟩, -⟩ := id hH
  try dsimp only at p0 q0 p1 q1 p2 q2 p3 q3
  generalize w3.alloc (.cells #[.int .u64 ((hiN a : Nat) : Int), .int .u64 ((loN a : Nat) : Int)] 24) = wz at *
  have c1 : ∀ d os, Calls Tryd.prog 25 #[numV a] (grow (redrawn wz d) os) _ := fun d os => Calls.regrown_of (hrs.out _)
  have c2 : ∀ d os, Calls Tryd.prog 26 #[.int .u64 ((loN a : Nat) : Int)] (grow (redrawn wz d) os) _ := fun d os => Calls.regrown_of (hof.out _)
  have k0 := cell_regrown p0
  have k1 := cell_regrown p1
  have k2 := cell_regrown p2
  have k3 := cell_regrown p3
  refine wp_region_quiet_below (by kernel_rfl) (by kernel_rfl) ?_
  repeat (quiet_step (first | with_reducible exact c1 _ _ | with_reducible exact c2 _ _))
  refine wpQuiet_nil ?_
  intro w9 hw'
  obtain ⟨pq, hw''⟩ := hw'
  have hw9 : Below wz.heap.size wz w9 := by rw [hw'']; exact below_regrown _ _ _
  clear hw'' k0 k1 k2 k3
  go_wp2
  go_ret
  exact ⟨by first | rfl | simp, hb1.trans (hw9.mono hb1.size)⟩
end Go.Proofs.YtddjogbenfkcpaaDoor
