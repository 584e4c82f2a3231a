/- The landed accounts' Check. No condition but that the variable Most holds the greatest number. -/
import Derived.Test.YtideooaefplbhaaDoorZKb
namespace Go.Proofs.YtideooaefplbhaaDoor
open Go.RowKit Go.Sort Wm Cr
attribute [local go_sem high] run_eql_num run_neq_num run_eql_num0 run_neq_num0

set_option maxRecDepth 100000 in
set_option maxHeartbeats 4000000 in
theorem acCheck_any (a : Acct) (W : World) (ha : a.Wf) (hM : Most W) : Calls Tryd.prog 9 #[acctV a] W fun e W' => e = .returned (.int .i64 (chkA a)) ∧ Below W.heap.size W W' := by
  have hm0 := (Hx.refl (Mo := fun _ => True) (w := W) trivial).new yesLater a.cells 26
  have hx := chkA_in a ha
  have hn := fun w => run_neq_bare a w
  have kb := Lib.hid (fun W' (h : Hx (fun _ => True) W W' [(W.heap.size, a.cells)]) => h.ask yesLater (acBare_any a W'))
  have k6 := Lib.hid (fun W' (h : Hx (fun _ => True) W W' [(W.heap.size, a.cells)]) => h.ask yesLater ((acWithin_any 1 a.Ledger 4294967295 W').mono (fun _ _ e => ⟨e.1, by rw [← e.2]; exact Below.refl _ _⟩)))
  have k7 := Lib.hid (fun W' (h : Hx (fun _ => True) W W' [(W.heap.size, a.cells)]) => h.ask yesLater ((acWithin_any 1 a.Code 65535 W').mono (fun _ _ e => ⟨e.1, by rw [← e.2]; exact Below.refl _ _⟩)))
  have hMi := Lib.hid (show (Tryd.prog.info? 26).map (·.size) = some a.cells.length by rw [Acct.cells_length]; kernel_rfl)
  have hV : acctV (bareA a) = .agg (bareA a).cells.toArray := rfl
  have hVa : acctV a = .agg a.cells.toArray := rfl
  rw [hV] at kb
  rw [hVa] at kb
  generalize (bareA a).cells = Mb at *
  obtain ⟨m0, m1, ml⟩ := hM.later ((Below.refl _ _).alloc (Nat.le_refl _) (.cells a.cells.toArray 26))
  have hg := Lib.hid (fun W' (h : Hx (fun _ => True) W W' [(W.heap.size, a.cells)]) => (h.box _ (List.mem_cons_self ..)).acct h)
  generalize decide (a.DebitsPending ≠ 0 ∨ a.DebitsPosted ≠ 0 ∨ a.CreditsPending ≠ 0 ∨ a.CreditsPosted ≠ 0 ∨ a.Stamp ≠ 0) = b5 at *
  generalize inZ 1 a.Ledger 4294967295 = b6 at *
  generalize inZ 1 a.Code 65535 = b7 at *
  generalize h1 : (bits .andNot .i64 a.Flags 7 != 0) = b1 at *
  generalize h4 : (bits .and .i64 a.Flags 6 == 6) = b4 at *
  obtain ⟨b2, h2⟩ : ∃ b, decide (a.Id = 0) = b := ⟨_, rfl⟩
  obtain ⟨b3, h3⟩ : ∃ b, decide (a.Id = mostN) = b := ⟨_, rfl⟩
  rw [h2, h3] at hx
  generalize chkA a = x at *
  subst hx
  clear hV ha hM
  rw [acctV_eq]
  dsimp only [Acct.cells] at m0 m1 ml
  cases b1
  case true =>
    go_enter Tryd.func9, Tryd.ntmps9
    go_wp2
    go_ret
    exact ⟨rfl, hm0.bel⟩
  cases b2
  case true =>
    go_enter Tryd.func9, Tryd.ntmps9
    go_wp2
    go_ret
    exact ⟨rfl, hm0.bel⟩
  cases b3
  case true =>
    go_enter Tryd.func9, Tryd.ntmps9
    go_wp2
    go_ret
    exact ⟨rfl, hm0.bel⟩
  cases b4
  case true =>
    go_enter Tryd.func9, Tryd.ntmps9
    go_wp2
    go_ret
    exact ⟨rfl, hm0.bel⟩
  go_enter Tryd.func9, Tryd.ntmps9
  go_wp2_with fail
  refine wp_region_calm (fun w' => Hx (fun _ => True) W w' [(W.heap.size, a.cells)]) (by kernel_rfl) (by kernel_rfl) (hm0.drew yesLater) ?_
  refine calm_load 26 _ (W.heap.size) 0 (a.cells) _ (by rfl) rfl rfl (fun w' h => (h.box (W.heap.size, a.cells) (by simp)).range) Tryd.underlying26 rfl (by first | exact hMi.out | exact hNi.out | exact hCi.out | exact hDi.out | kernel_rfl) ?_
  try simp only [Act.put, List.setIfInBounds_toArray, List.set_cons_zero, List.set_cons_succ]
  refine calm_load 26 _ (W.heap.size) 0 (a.cells) _ (by rfl) rfl rfl (fun w' h => (h.box (W.heap.size, a.cells) (by simp)).range) Tryd.underlying26 rfl (by first | exact hMi.out | exact hNi.out | exact hCi.out | exact hDi.out | kernel_rfl) ?_
  try simp only [Act.put, List.setIfInBounds_toArray, List.set_cons_zero, List.set_cons_succ]
  refine calm_call 23 #[.agg a.cells.toArray] (by rfl) (fun w' => by go_simp) (fun w' h => (kb.out w' h)) ?_
  try simp only [Act.put, List.setIfInBounds_toArray, List.set_cons_zero, List.set_cons_succ]
  refine calm_pure (v := ?cv69) (by rfl) (fun w' => ?ch69) ?cr69
  case ch69 => (go_simp; first | done | with_reducible rfl)
  try simp only [Act.put, List.setIfInBounds_toArray, List.set_cons_zero, List.set_cons_succ]
  refine calm_pure (v := ?cv72) (by rfl) (fun w' => ?ch72) ?cr72
  case ch72 => (go_simp; first | done | with_reducible rfl)
  try simp only [Act.put, List.setIfInBounds_toArray, List.set_cons_zero, List.set_cons_succ]
  intro w3 hm3
  cases b5
  case true =>
    go_wp2
    go_ret
    exact ⟨rfl, hm3.bel⟩
  obtain ⟨z0, z1, z2, z3, z4, z5, z6, z7, z8, z9, z10, z11, z12, z13, z14, -⟩ := hg.out _ hm3
  go_wp2_with fail
  refine (k6.out _ hm3).mono ?_
  rintro e w4 ⟨rfl, hm4⟩
  clear z0 z1 z2 z3 z4 z5 z6 z7 z8 z9 z10 z11 z12 z13 z14 hm3 k6
  cases b6
  case false =>
    go_wp2
    go_ret
    exact ⟨rfl, hm4.bel⟩
  obtain ⟨z0, z1, z2, z3, z4, z5, z6, z7, z8, z9, z10, z11, z12, z13, z14, -⟩ := hg.out _ hm4
  go_wp2_with fail
  refine (k7.out _ hm4).mono ?_
  rintro e w5 ⟨rfl, hm5⟩
  cases b7
  all_goals
    go_wp2
    go_ret
    exact ⟨rfl, hm5.bel⟩
end Go.Proofs.YtideooaefplbhaaDoor
