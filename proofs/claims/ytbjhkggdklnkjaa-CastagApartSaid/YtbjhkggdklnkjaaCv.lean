/- CastagHolds' walk. No condition but that the text's length is an int. -/
import Derived.Test.YtbjhkggdklnkjaaCu
namespace Go.Proofs.Ytbjhkggdklnkjaa
open Go.RowKit Go.Sort Cr

theorem alive3_any (w : World) : Calls Try.prog 8 #[] w fun e w' => e = .returned (.bool true) ∧ Below w.heap.size w w' := alive2_any landed w trivial
theorem max_nn (n : Nat) (ty : TypeId) (W : World) :
    (Builtin.max_ #[3, 3] ty #[.int .i64 ((n : Nat) : Int), .int .i64 0]).run Try.prog W = .ok (.int .i64 ((n : Nat) : Int)) W := by
  rw [run_max_int2, if_neg (by omega)]

set_option maxRecDepth 100000 in
set_option maxHeartbeats 1000000 in
theorem castagHolds_any (s : ByteArray) (hm2 : s.size ≤ maxLen) (w : World) :
    Calls Try.prog 5 #[.string s] w fun e w' => e = .returned (.bool true) ∧ Below w.heap.size w w' := by
  unfold maxLen at hm2
  have hal := Lib.hid alive3_any
  by_cases hq : s.size ≤ 2048
  · have hho := Lib.hid (fun w => holds_any s (by omega) w)
    have hown := holds_own s
    have hap := Lib.hid (fun w => holds_any (s ++ fourT (sumC 0 (bytesC s))) (by rw [ByteArray.size_append, fourT_size]; omega) w)
    rw [hown] at hap
    clear hown
    have hrs := Lib.hid (fun w => refsum0 s (by omega) w)
    have hrb := Lib.hid (fun w => refbytes4_any (sumC 0 (bytesC s)) (sumC_lt 0 _) w)
    by_cases h4 : 4 ≤ s.size
    · obtain ⟨n, hn⟩ : ∃ n, s.size = n + 4 := ⟨s.size - 4, by omega⟩
      have hB : Hid (((fourT (sumC 0 (bytesC (s.extract 0 n)))).toList == (s.extract n (n + 4)).toList) = holdsB s) := Lib.hid (by unfold holdsB; rw [decide_eq_true h4, Bool.true_and, hn]; rfl)
      have cS : ∀ W d os, Calls Try.prog 12 #[.int .u32 0, .string (s.extract 0 n)] (grow (redrawn W d) os) _ := fun W d os => Calls.regrown_of ((refsum0 (s.extract 0 n) (by rw [ByteArray.size_extract]; omega) _).mono fun _ _ ⟨a, b⟩ => ⟨a, b ▸ Below.refl _ _⟩)
      have cB : ∀ W d os, Calls Try.prog 13 #[.int .u32 ((sumC 0 (bytesC (s.extract 0 n)) : Nat) : Int)] (grow (redrawn W d) os) _ := fun W d os => Calls.regrown_of (refbytes4_any _ (sumC_lt 0 _) _)
      clear h4
      have hsz := fourT_size (sumC 0 (bytesC s))
      replace cS := Lib.hid cS
      replace cB := Lib.hid cB
      have n1 : ¬ (2048 : Int) < ((n : Nat) : Int) + 4 := by omega
      go_enter Try.func5, Try.ntmps5
      go_wp2_with fail
      refine (hal.out _).mono ?_
      rintro e w1 ⟨rfl, hb1⟩
      have l1 := str_from s n 4 hn
      have l2 := str_to s n (by omega)
      have l3 := max_nn n
      go_wp2
      refine wp_region_quiet_below (by kernel_rfl) (by kernel_rfl) ?_
      repeat (quiet_step (first | with_reducible exact cS.out _ _ _ | with_reducible exact cB.out _ _ _))
      refine wpQuiet_nil ?_
      intro w2 hw'
      obtain ⟨pq, hw''⟩ := hw'
      have hb2 : Below w1.heap.size w1 w2 := by rw [hw'']; exact below_regrown _ _ _
      clear hw'' l1 l2 l3
      rw [hB.out]
      replace hb1 := hb1.trans (hb2.mono hb1.size)
      clear hb2
      go_wp2_with fail
      refine (hho.out _).mono ?_
      rintro e w3 ⟨rfl, hb2⟩
      replace hb1 := hb1.trans (hb2.mono hb1.size)
      clear hb2
      go_wp2_with fail
      refine (hrs.out _).mono ?_
      rintro e w4 ⟨rfl, rfl⟩
      go_wp2_with fail
      refine (hrb.out _).mono ?_
      rintro e w5 ⟨rfl, hb2⟩
      replace hb1 := hb1.trans (hb2.mono hb1.size)
      clear hb2
      go_wp2_with fail
      refine (hap.out _).mono ?_
      rintro e w6 ⟨rfl, hb2⟩
      replace hb1 := hb1.trans (hb2.mono hb1.size)
      clear hb2
      go_wp2
      go_ret
      exact ⟨by simp, hb1⟩
    · have hB : Hid (holdsB s = false) := Lib.hid (by unfold holdsB; rw [decide_eq_false h4, Bool.false_and])
      rw [hB.out] at hho
      have hd := decide_eq_false (show ¬ (0 : Int) ≤ ((s.size : Nat) : Int) - 4 by omega)
      have hd2 := decide_eq_false (show ¬ (4 : Int) ≤ ((s.size : Nat) : Int) by omega)
      have hsz := fourT_size (sumC 0 (bytesC s))
      go_enter Try.func5, Try.ntmps5
      go_wp2_with fail
      refine (hal.out _).mono ?_
      rintro e w1 ⟨rfl, hb1⟩
      go_wp2
      go_quiet (fail)
      have hb2 : Below w1.heap.size w1 (w1.drewN nq) := ⟨rfl, rfl, rfl, Nat.le_refl _, fun _ _ => rfl⟩
      generalize w1.drewN nq = w2 at *
      replace hb1 := hb1.trans (hb2.mono hb1.size)
      clear hb2
      go_wp2_with fail
      refine (hho.out _).mono ?_
      rintro e w3 ⟨rfl, hb2⟩
      replace hb1 := hb1.trans (hb2.mono hb1.size)
      clear hb2
      go_wp2_with fail
      refine (hrs.out _).mono ?_
      rintro e w4 ⟨rfl, rfl⟩
      go_wp2_with fail
      refine (hrb.out _).mono ?_
      rintro e w5 ⟨rfl, hb2⟩
      replace hb1 := hb1.trans (hb2.mono hb1.size)
      clear hb2
      go_wp2_with fail
      refine (hap.out _).mono ?_
      rintro e w6 ⟨rfl, hb2⟩
      replace hb1 := hb1.trans (hb2.mono hb1.size)
      clear hb2
      go_wp2
      go_ret
      exact ⟨by simp, hb1⟩
  · have hq2 : 2048 < ((s.size : Nat) : Int) := by omega
    clear hq
    go_enter Try.func5, Try.ntmps5
    go_wp2_with fail
    refine (hal.out _).mono ?_
    rintro e w1 ⟨rfl, hb1⟩
    go_wp2
    go_ret
    exact ⟨rfl, hb1⟩
end Go.Proofs.Ytbjhkggdklnkjaa
