/- The landed Holds. No condition but the text's size. -/
import Derived.Test.YtbjhkggdklnkjaaCt
namespace Go.Proofs.Ytbjhkggdklnkjaa
open Go.RowKit Go.Sort Cr

/-- A string's end, and its beginning. -/
theorem str_from (s : ByteArray) (n k : Nat) (h : s.size = n + k) (W : World) :
    (Instr.sliceAt 9 (.string s) (some (.int .i64 ((n : Nat) : Int))) none none).run Try.prog W = .ok (.string (s.extract n (n + k))) W := by
  rw [run_sliceAt_string _ _ _ _ _ _ Try.underlying9, run_slice_string_l _ _ _ Try.underlying9 _ _ (by omega) (by omega), h]
  simp
theorem str_to (s : ByteArray) (n : Nat) (h : n ≤ s.size) (W : World) :
    (Instr.sliceAt 9 (.string s) none (some (.int .i64 ((n : Nat) : Int))) none).run Try.prog W = .ok (.string (s.extract 0 n)) W := by
  rw [run_sliceAt_string _ _ _ _ _ _ Try.underlying9, run_slice_string_h _ _ _ Try.underlying9 _ _ (by omega) (by omega)]
  simp

set_option maxRecDepth 100000 in
set_option maxHeartbeats 1000000 in
theorem holds_any (s : ByteArray) (hs : s.size ≤ 4096) (w : World) :
    Calls Try.prog 14 #[.string s] w fun e w' => e = .returned (.bool (holdsB s)) ∧ Below w.heap.size w w' := by
  by_cases h4 : 4 ≤ s.size
  · obtain ⟨n, hn⟩ : ∃ n, s.size = n + 4 := ⟨s.size - 4, by omega⟩
    have hB : Hid (holdsB s = ((s.extract n (n + 4)).toList == (fourT (sumC 0 (bytesC (s.extract 0 n)))).toList)) := Lib.hid (by unfold holdsB; rw [decide_eq_true h4, Bool.true_and, hn, BEq.comm]; rfl)
    have cS : ∀ W d os, Calls Try.prog 9 #[.int .u32 0, .string (s.extract 0 n)] (grow (redrawn W d) os) _ := fun W d os => Calls.regrown_of ((sum_any 0 (by rw [W_eq]; decide) (s.extract 0 n) (by rw [ByteArray.size_extract]; omega) _).mono fun _ _ ⟨a, b⟩ => ⟨a, b ▸ Below.refl _ _⟩)
    have cB : ∀ W d os, Calls Try.prog 11 #[.int .u32 ((sumC 0 (bytesC (s.extract 0 n)) : Nat) : Int)] (grow (redrawn W d) os) _ := fun W d os => Calls.regrown_of (bytes4_any _ (sumC_lt 0 _) _)
    clear h4
    have l1 := str_from s n 4 hn
    have l2 := str_to s n (by omega)
    replace cS := Lib.hid cS
    replace cB := Lib.hid cB
    go_enter Try.func14, Try.ntmps14
    go_wp2
    refine wp_region_quiet_below (by kernel_rfl) (by kernel_rfl) ?_
    repeat (quiet_step (first | with_reducible exact cS.out _ _ _ | with_reducible exact cB.out _ _ _))
    refine wpQuiet_nil ?_
    intro w2 hw'
    obtain ⟨pq, hw''⟩ := hw'
    have hb2 : Below w.heap.size w w2 := by rw [hw'']; exact below_regrown _ _ _
    clear hw''
    go_wp2
    go_ret
    exact ⟨by rw [hB.out]; rfl, hb2⟩
  · have hB : Hid (holdsB s = false) := Lib.hid (by unfold holdsB; rw [decide_eq_false h4, Bool.false_and])
    have hd := decide_eq_false (show ¬ (0 : Int) ≤ ((s.size : Nat) : Int) - 4 by omega)
    have hd2 := decide_eq_false (show ¬ (4 : Int) ≤ ((s.size : Nat) : Int) by omega)
    go_enter Try.func14, Try.ntmps14
    go_wp2
    go_quiet (fail)
    go_wp2
    go_ret
    exact ⟨by rw [hB.out]; rfl, ⟨rfl, rfl, rfl, Nat.le_refl _, fun _ _ => rfl⟩⟩

/-- What the walks of the laws ask of the landed package, met. -/
theorem landed : Landed fun _ => True where
  later _ _ _ _ := trivial
  sum a s ha hs w _ := (sum_any a ha s hs w).mono fun _ _ ⟨x, y⟩ => ⟨x, y ▸ Below.refl _ _⟩
  bytes c hc w _ := bytes4_any c hc w
theorem landedFrom : LandedFrom fun _ => True where
  from' s hs w _ := (frombytes4_any s hs w).mono fun _ _ ⟨x, y⟩ => ⟨x, y ▸ Below.refl _ _⟩
theorem landedHolds : LandedHolds fun _ => True where
  holds s hs w _ := holds_any s (by omega) w
end Go.Proofs.Ytbjhkggdklnkjaa
