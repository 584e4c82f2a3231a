/- Stage 14: the law's same: two rows of numbers, whether they read the same. No condition but sizes. -/
import Derived.Test.YtkahohgbcnchiaaUnq
namespace Go.Proofs.Ytkahohgbcnchiaa
open Go.RowKit Wm

set_option maxRecDepth 100000 in
set_option maxHeartbeats 4000000 in
theorem usame_any {W : World} {ra rb : Rw} (ha : ra.reads W) (hb : rb.reads W) (he : ra.xs = rb.xs) (hl : ra.xs.length ≤ 100000) :
    Calls Try.prog 14 #[ra.val, rb.val] W fun e W' => e = .returned (.bool true) ∧ Below W.heap.size W W' := by
  have la := Rw.reads_len ha
  have lb := Rw.reads_len hb
  rw [← he] at lb
  have hread := Lib.hid (fun w' (hbw : Below W.heap.size W w') k (hk : k < ra.xs.length) => show ∃ g1 g2, ra.ao = some ⟨g1, 0, none⟩ ∧ rb.ao = some ⟨g2, 0, none⟩ ∧ (w'.cell? ⟨g1, k, none⟩ = some (.int .i64 ra.xs[k]) ∧ g1 < w'.heap.size) ∧ w'.cell? ⟨g2, k, none⟩ = some (.int .i64 ra.xs[k]) ∧ g2 < w'.heap.size from by
    obtain ⟨g1, c1, e1, q1, -, l1⟩ := csI_cell ha hk
    obtain ⟨g2, c2, e2, q2, -, l2⟩ := csI_cell (s := rb.xs) hb (by rw [← he]; exact hk)
    unfold Rw.val at e1 e2
    refine ⟨g1, g2, by injection e1, by injection e2, ⟨(hbw.cell (p := ⟨g1, k, none⟩) l1).trans q1, Nat.lt_of_lt_of_le l1 hbw.size⟩, (hbw.cell (p := ⟨g2, k, none⟩) l2).trans ?_, Nat.lt_of_lt_of_le l2 hbw.size⟩
    rw [q2]; simp [he])
  unfold Rw.val
  rw [la, lb]
  clear la lb ha hb he
  generalize ra.ao = ao at *
  generalize rb.ao = bo at *
  generalize ra.cap = c1 at *
  generalize rb.cap = c2 at *
  generalize ra.xs = xs at *
  have hne : ((xs.length : Int) != (xs.length : Int)) = false := by simp
  go_enter Try.func14, Try.ntmps14
  go_wp2_with fail
  go_loopw [13] (fun iv wr => ∃ k : Nat, k ≤ xs.length ∧ iv = .int .i64 k ∧ Below W.heap.size W wr) (fun iv _ => (xs.length - RowKit.intOf iv).toNat)
  case atStart => exact ⟨0, by omega, rfl, Below.refl _ _⟩
  case round =>
    obtain ⟨k, hk, rfl, hb⟩ := hrel
    by_cases hlt : k < xs.length
    · obtain ⟨g1, g2, rfl, rfl, -⟩ := hread.out wr hb k hlt
      have ix1 := Lib.hid (fun w => run_idx_I g1 xs.length c1 k hlt w)
      have ix2 := Lib.hid (fun w => run_idx_I g2 xs.length c2 k hlt w)
      have hS := Lib.hid (fun w' (hbw : Below W.heap.size W w') => show (w'.cell? ⟨g1, k, none⟩ = some (.int .i64 xs[k]) ∧ g1 < w'.heap.size) ∧ w'.cell? ⟨g2, k, none⟩ = some (.int .i64 xs[k]) ∧ g2 < w'.heap.size from by
        obtain ⟨h1, h2, e1, e2, x⟩ := hread.out w' hbw k hlt
        injection e1 with e1
        injection e1 with e1
        injection e2 with e2
        injection e2 with e2
        subst e1 e2
        exact x)
      generalize xs[k] = x at *
      have hne2 : (x != x) = false := by simp
      have hltI : decide (k < xs.length) = true := decide_eq_true hlt
      go_upto_region 6 with (fail)
      refine wp_region_calm (fun w' => Below W.heap.size W w') (by kernel_rfl) (by kernel_rfl) hb.drew ?_
      refine calm_pure (v := ?cv50) (by rfl) (fun w' => ?ch50) ?cr50
      case ch50 => (go_simp; first | done | with_reducible rfl)
      try simp only [Act.put, List.setIfInBounds_toArray, List.set_cons_zero, List.set_cons_succ]
      refine calm_pure (v := ?cv53) (by rfl) (fun w' => ?ch53) ?cr53
      case ch53 => (go_simp; first | done | with_reducible rfl)
      try simp only [Act.put, List.setIfInBounds_toArray, List.set_cons_zero, List.set_cons_succ]
      refine calm_index _ _ _ (.slice (some ⟨g1, 0, none⟩) xs.length c1) (.int .i64 (k : Int)) _ (by rfl) rfl rfl rfl ix1.out ?_
      try simp only [Act.put, List.setIfInBounds_toArray, List.set_cons_zero, List.set_cons_succ]
      refine calm_read (v := (.int .i64 x)) (by rfl) (fun w' h => ?ch58) ?cr58
      case ch58 => (obtain ⟨hcq, hcl⟩ := (hS.out w' h).1; go_simp)
      try simp only [Act.put, List.setIfInBounds_toArray, List.set_cons_zero, List.set_cons_succ]
      refine calm_pure (v := ?cv61) (by rfl) (fun w' => ?ch61) ?cr61
      case ch61 => (go_simp; first | done | with_reducible rfl)
      try simp only [Act.put, List.setIfInBounds_toArray, List.set_cons_zero, List.set_cons_succ]
      refine calm_pure (v := ?cv64) (by rfl) (fun w' => ?ch64) ?cr64
      case ch64 => (go_simp; first | done | with_reducible rfl)
      try simp only [Act.put, List.setIfInBounds_toArray, List.set_cons_zero, List.set_cons_succ]
      refine calm_index _ _ _ (.slice (some ⟨g2, 0, none⟩) xs.length c2) (.int .i64 (k : Int)) _ (by rfl) rfl rfl rfl ix2.out ?_
      try simp only [Act.put, List.setIfInBounds_toArray, List.set_cons_zero, List.set_cons_succ]
      refine calm_read (v := (.int .i64 x)) (by rfl) (fun w' h => ?ch69) ?cr69
      case ch69 => (obtain ⟨hcq, hcl⟩ := (hS.out w' h).2; go_simp)
      try simp only [Act.put, List.setIfInBounds_toArray, List.set_cons_zero, List.set_cons_succ]
      refine calm_pure (v := ?cv72) (by rfl) (fun w' => ?ch72) ?cr72
      case ch72 => (go_simp; first | done | with_reducible rfl)
      try simp only [Act.put, List.setIfInBounds_toArray, List.set_cons_zero, List.set_cons_succ]
      intro w9 hm9
      go_wp2
      go_roundw
      case measure => simp [RowKit.intOf]; omega
      case rel => exact ⟨k + 1, by omega, rfl, hm9⟩
    · go_wp2_with fail
      go_ret
      exact ⟨rfl, hb⟩
end Go.Proofs.Ytkahohgbcnchiaa
