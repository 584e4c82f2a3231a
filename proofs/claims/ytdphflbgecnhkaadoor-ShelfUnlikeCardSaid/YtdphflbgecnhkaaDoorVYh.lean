/- Stage 26: the walk of ShelfUnlike. No condition but the landed package's. -/
import Derived.Test.YtdphflbgecnhkaaDoorVYc
namespace Go.Proofs.YtdphflbgecnhkaaDoor
open Go.RowKit Go.Sort Wm Cr
attribute [local go_sem high] run_eql_num run_neq_num run_neq_num0

open Classical in
theorem eql_place_id {p q : Place} (hp : goodPl p = true) (hq : goodPl q = true) (w : World) : (binOp .eql 23 (.agg #[.string p.Good, .string p.Site, .int .i64 p.State]) (.agg #[.string q.Good, .string q.Site, .int .i64 q.State])).run Tryd.prog w = .ok (.bool (decide (idPl p = idPl q))) w := by
  have h := run_eql_place p q w
  have e : decide (p = q) = decide (idPl p = idPl q) := decide_eq_decide.2 ⟨fun e => by rw [e], idPl_inj hp hq⟩
  rw [e] at h
  exact h
section
set_option maxRecDepth 100000 in
set_option maxHeartbeats 4000000 in
theorem shelfUnlike_out (L : LandedSh Most) (p q : Place) (hp : p.Wf) (hq : q.Wf) (w : World) (hM : Most w)
    (hout : 100 < p.Good.size + p.Site.size + q.Good.size + q.Site.size ∨ goodPl p = false ∨ goodPl q = false) : Calls Tryd.prog 5 #[placeV p, placeV q] w fun e w' => e = .returned (.bool true) ∧ Below w.heap.size w w' := by
  have hm0 := ((Hx.refl hM).new L.later p.cells 23).new L.later q.cells 23
  rw [World.size_alloc] at hm0
  have hal := Lib.hid (fun l W (h : Hx Most w W l) => h.ask L.later (shelfAlive_any L W h.mo))
  have k1 := Lib.hid (fun l W (h : Hx Most w W l) => h.ask L.later (refgoodp_any p hp W))
  have k2 := Lib.hid (fun l W (h : Hx Most w W l) => h.ask L.later (refgoodp_any q hq W))
  have b1 := hp.Good
  have b2 := hp.Site
  have b3 := hq.Good
  have b4 := hq.Site
  have hbig : decide ((100 : Int) < (p.Good.size : Int) + (p.Site.size : Int) + (q.Good.size : Int) + (q.Site.size : Int)) = decide (100 < p.Good.size + p.Site.size + q.Good.size + q.Site.size) := decide_eq_decide.2 (by omega)
  have hout2 : decide (100 < p.Good.size + p.Site.size + q.Good.size + q.Site.size) = true ∨ goodPl p = false ∨ goodPl q = false := hout.imp_left decide_eq_true
  have hC := Lib.hid (fun W (h : Hx Most w W [(w.heap.size + 1, q.cells), (w.heap.size, p.cells)]) => (show W.cell? ⟨w.heap.size, 0, none⟩ = some (.string p.Good) ∧ W.cell? ⟨w.heap.size, 1, none⟩ = some (.string p.Site) ∧ W.cell? ⟨w.heap.size, 2, none⟩ = some (.int .i64 p.State) ∧ W.cell? ⟨w.heap.size + 1, 0, none⟩ = some (.string q.Good) ∧ W.cell? ⟨w.heap.size + 1, 1, none⟩ = some (.string q.Site) ∧ W.cell? ⟨w.heap.size + 1, 2, none⟩ = some (.int .i64 q.State) ∧ w.heap.size + 1 < W.heap.size from
    ⟨(h.box (w.heap.size, p.cells) (by simp)).spot 0 _ rfl, (h.box (w.heap.size, p.cells) (by simp)).spot 1 _ rfl, (h.box (w.heap.size, p.cells) (by simp)).spot 2 _ rfl, (h.box (w.heap.size + 1, q.cells) (by simp)).spot 0 _ rfl, (h.box (w.heap.size + 1, q.cells) (by simp)).spot 1 _ rfl, (h.box (w.heap.size + 1, q.cells) (by simp)).spot 2 _ rfl, (h.box (w.heap.size + 1, q.cells) (by simp)).lt⟩))
  rw [placeV_eq] at k1 k2
  rw [placeV_eq, placeV_eq]
  clear hout L hM
  generalize decide (100 < p.Good.size + p.Site.size + q.Good.size + q.Site.size) = c0 at *
  generalize goodPl p = c1 at *
  generalize goodPl q = c2 at *
  cases c0 <;> cases c1 <;> cases c2
  case false.true.true => rcases hout2 with h | h | h <;> cases h
  all_goals
    clear hout2
    go_enter Tryd.func5, Tryd.ntmps5
    go_wp2_with fail
    refine (hal.out _ _ hm0).mono ?_
    rintro e w1 ⟨rfl, hm1⟩
    clear hm0
    have hm0 := hm1
    clear hm1
    obtain ⟨z0, z1, z2, z3, z4, z5, zl⟩ := hC.out _ hm0
    go_wp2_with (first
      | (go_at_call 9; with_reducible refine (k1.out _ _ hm0).mono ?_; rintro e Wn ⟨rfl, hbn⟩; replace hm0 := hbn; clear hbn; clear z0 z1 z2 z3 z4 z5 zl; obtain ⟨z0, z1, z2, z3, z4, z5, zl⟩ := hC.out _ hm0)
      | (go_at_call 9; with_reducible refine (k2.out _ _ hm0).mono ?_; rintro e Wn ⟨rfl, hbn⟩; replace hm0 := hbn; clear hbn; clear z0 z1 z2 z3 z4 z5 zl; obtain ⟨z0, z1, z2, z3, z4, z5, zl⟩ := hC.out _ hm0))
    all_goals
      go_ret
      exact ⟨rfl, hm0.bel⟩
set_option maxRecDepth 100000 in
set_option maxHeartbeats 4000000 in
theorem shelfUnlike_in (L : LandedSh Most) (p q : Place) (hp : p.Wf) (hq : q.Wf) (w : World) (hM : Most w)
    (hsz : ¬ 100 < p.Good.size + p.Site.size + q.Good.size + q.Site.size) (g1 : goodPl p = true) (g2 : goodPl q = true) : Calls Tryd.prog 5 #[placeV p, placeV q] w fun e w' => e = .returned (.bool true) ∧ Below w.heap.size w w' := by
  have hm0 := ((Hx.refl hM).new L.later [.string p.Good, .string p.Site, .int .i64 p.State] 23).new L.later [.string q.Good, .string q.Site, .int .i64 q.State] 23
  rw [World.size_alloc] at hm0
  have hal := Lib.hid (fun l W (h : Hx Most w W l) => h.ask L.later (shelfAlive_any L W h.mo))
  have k1 := Lib.hid (fun l W (h : Hx Most w W l) => h.ask L.later (refgoodp_any p hp W))
  have k2 := Lib.hid (fun l W (h : Hx Most w W l) => h.ask L.later (refgoodp_any q hq W))
  have i1 := Lib.hid (fun l W (h : Hx Most w W l) => h.ask L.later (L.id p W hp h.mo))
  have i2 := Lib.hid (fun l W (h : Hx Most w W l) => h.ask L.later (L.id q W hq h.mo))
  have hlat := Lib.hid L.later
  have hbig : decide ((100 : Int) < (p.Good.size : Int) + (p.Site.size : Int) + (q.Good.size : Int) + (q.Site.size : Int)) = false := decide_eq_false (by omega)
  have s1 : p.Good.size ≤ 100 := by omega
  have s2 : p.Site.size ≤ 100 := by omega
  have s3 : q.Good.size ≤ 100 := by omega
  have s4 : q.Site.size ≤ 100 := by omega
  have he := fun w => eql_place_id g1 g2 w
  have hn0 : decide (idPl p = 0) = false := decide_eq_false (idPl_zero g1)
  have hnm : decide (idPl p = mostN) = false := decide_eq_false (idPl_most g1)
  rw [g1] at k1 i1
  rw [g2] at k2 i2
  have hC := Lib.hid (fun l W (h : Hx Most w W l) (hp' : (w.heap.size, [.string p.Good, .string p.Site, .int .i64 p.State]) ∈ l) (hq' : (w.heap.size + 1, [.string q.Good, .string q.Site, .int .i64 q.State]) ∈ l) => (show W.cell? ⟨w.heap.size, 0, none⟩ = some (.string p.Good) ∧ W.cell? ⟨w.heap.size, 1, none⟩ = some (.string p.Site) ∧ W.cell? ⟨w.heap.size, 2, none⟩ = some (.int .i64 p.State) ∧ W.cell? ⟨w.heap.size + 1, 0, none⟩ = some (.string q.Good) ∧ W.cell? ⟨w.heap.size + 1, 1, none⟩ = some (.string q.Site) ∧ W.cell? ⟨w.heap.size + 1, 2, none⟩ = some (.int .i64 q.State) ∧ w.heap.size + 1 < W.heap.size from
    ⟨(h.box _ hp').spot 0 _ rfl, (h.box _ hp').spot 1 _ rfl, (h.box _ hp').spot 2 _ rfl, (h.box _ hq').spot 0 _ rfl, (h.box _ hq').spot 1 _ rfl, (h.box _ hq').spot 2 _ rfl, (h.box _ hq').lt⟩))
  rw [placeV_eq] at k1 k2 i1 i2
  rw [placeV_eq, placeV_eq]
  generalize idPl p = n1 at *
  generalize idPl q = n2 at *
  have e1 := fun w => run_eql_num n1 n2 w
  have e2 := fun w => run_neq_num n1 mostN w
  have e3 := fun w => run_neq_num0 n1 w
  generalize hdd : decide (n1 = n2) = d at *
  unfold numV at i1 i2 e1 e2 e3
  clear L hM hsz g1 g2 hp hq hdd
  go_enter Tryd.func5, Tryd.ntmps5
  go_wp2_with fail
  refine (hal.out _ _ hm0).mono ?_
  rintro e w1 ⟨rfl, hm1⟩
  obtain ⟨z0, z1, z2, z3, z4, z5, zl⟩ := hC.out _ _ hm1 (by simp) (by simp)
  go_wp2_with fail
  refine (k1.out _ _ hm1).mono ?_
  rintro e w2 ⟨rfl, hm2⟩
  clear z0 z1 z2 z3 z4 z5 zl
  obtain ⟨z0, z1, z2, z3, z4, z5, zl⟩ := hC.out _ _ hm2 (by simp) (by simp)
  go_wp2_with fail
  refine (k2.out _ _ hm2).mono ?_
  rintro e w3 ⟨rfl, hm3⟩
  clear z0 z1 z2 z3 z4 z5 zl
  obtain ⟨z0, z1, z2, z3, z4, z5, zl⟩ := hC.out _ _ hm3 (by simp) (by simp)
  go_wp2_with fail
  refine (i1.out _ _ hm3).mono ?_
  rintro e w4 ⟨rfl, hm4⟩
  have hm5 := hm4.new hlat.out [.int .u64 ((hiN n1 : Nat) : Int), .int .u64 ((loN n1 : Nat) : Int)] 27
  clear z0 z1 z2 z3 z4 z5 zl
  obtain ⟨z0, z1, z2, z3, z4, z5, zl⟩ := hC.out _ _ hm4 (by simp) (by simp)
  go_wp2_with fail
  refine (i2.out _ _ hm5).mono ?_
  rintro e w6 ⟨rfl, hm6⟩
  have hm7 := hm6.new hlat.out [.int .u64 ((hiN n2 : Nat) : Int), .int .u64 ((loN n2 : Nat) : Int)] 27
  clear z0 z1 z2 z3 z4 z5 zl
  go_wp2_with fail
  refine wp_region_calm (fun w' => Hx Most w w' [(w6.heap.size, [.int .u64 ((hiN n2 : Nat) : Int), .int .u64 ((loN n2 : Nat) : Int)]), (w4.heap.size, [.int .u64 ((hiN n1 : Nat) : Int), .int .u64 ((loN n1 : Nat) : Int)]), (w.heap.size + 1, [.string q.Good, .string q.Site, .int .i64 q.State]), (w.heap.size, [.string p.Good, .string p.Site, .int .i64 p.State])]) (by kernel_rfl) (by kernel_rfl) (hm7.drew hlat.out) ?_
  refine calm_load 27 _ (w4.heap.size) 0 ([.int .u64 ((hiN n1 : Nat) : Int), .int .u64 ((loN n1 : Nat) : Int)]) _ (by rfl) rfl rfl (fun w' h => (h.box (w4.heap.size, [.int .u64 ((hiN n1 : Nat) : Int), .int .u64 ((loN n1 : Nat) : Int)]) (by simp)).range) Tryd.underlying27 rfl (by first | exact hMi.out | exact hNi.out | exact hCi.out | exact hDi.out | kernel_rfl) ?_
  try simp only [Act.put, List.setIfInBounds_toArray, List.set_cons_zero, List.set_cons_succ]
  refine calm_load 27 _ (w6.heap.size) 0 ([.int .u64 ((hiN n2 : Nat) : Int), .int .u64 ((loN n2 : Nat) : Int)]) _ (by rfl) rfl rfl (fun w' h => (h.box (w6.heap.size, [.int .u64 ((hiN n2 : Nat) : Int), .int .u64 ((loN n2 : Nat) : Int)]) (by simp)).range) Tryd.underlying27 rfl (by first | exact hMi.out | exact hNi.out | exact hCi.out | exact hDi.out | kernel_rfl) ?_
  try simp only [Act.put, List.setIfInBounds_toArray, List.set_cons_zero, List.set_cons_succ]
  refine calm_pure (v := ?cv121) (by rfl) (fun w' => ?ch121) ?cr121
  case ch121 => (go_simp; first | done | with_reducible rfl)
  try simp only [Act.put, List.setIfInBounds_toArray, List.set_cons_zero, List.set_cons_succ]
  refine calm_load 23 _ (w.heap.size) 0 ([.string p.Good, .string p.Site, .int .i64 p.State]) _ (by rfl) rfl rfl (fun w' h => (h.box (w.heap.size, [.string p.Good, .string p.Site, .int .i64 p.State]) (by simp)).range) Tryd.underlying23 rfl (by first | exact hMi.out | exact hNi.out | exact hCi.out | exact hDi.out | kernel_rfl) ?_
  try simp only [Act.put, List.setIfInBounds_toArray, List.set_cons_zero, List.set_cons_succ]
  refine calm_load 23 _ (w.heap.size + 1) 0 ([.string q.Good, .string q.Site, .int .i64 q.State]) _ (by rfl) rfl rfl (fun w' h => (h.box (w.heap.size + 1, [.string q.Good, .string q.Site, .int .i64 q.State]) (by simp)).range) Tryd.underlying23 rfl (by first | exact hMi.out | exact hNi.out | exact hCi.out | exact hDi.out | kernel_rfl) ?_
  try simp only [Act.put, List.setIfInBounds_toArray, List.set_cons_zero, List.set_cons_succ]
  refine calm_pure (v := ?cv128) (by rfl) (fun w' => ?ch128) ?cr128
  case ch128 => (go_simp; first | done | with_reducible rfl)
  try simp only [Act.put, List.setIfInBounds_toArray, List.set_cons_zero, List.set_cons_succ]
  refine calm_pure (v := ?cv131) (by rfl) (fun w' => ?ch131) ?cr131
  case ch131 => (go_simp; first | done | with_reducible rfl)
  try simp only [Act.put, List.setIfInBounds_toArray, List.set_cons_zero, List.set_cons_succ]
  refine calm_pure (v := ?cv134) (by rfl) (fun w' => ?ch134) ?cr134
  case ch134 => (go_simp; first | done | with_reducible rfl)
  try simp only [Act.put, List.setIfInBounds_toArray, List.set_cons_zero, List.set_cons_succ]
  refine calm_load 27 _ (w4.heap.size) 0 ([.int .u64 ((hiN n1 : Nat) : Int), .int .u64 ((loN n1 : Nat) : Int)]) _ (by rfl) rfl rfl (fun w' h => (h.box (w4.heap.size, [.int .u64 ((hiN n1 : Nat) : Int), .int .u64 ((loN n1 : Nat) : Int)]) (by simp)).range) Tryd.underlying27 rfl (by first | exact hMi.out | exact hNi.out | exact hCi.out | exact hDi.out | kernel_rfl) ?_
  try simp only [Act.put, List.setIfInBounds_toArray, List.set_cons_zero, List.set_cons_succ]
  refine calm_pure (v := ?cv139) (by rfl) (fun w' => ?ch139) ?cr139
  case ch139 => (go_simp; first | done | with_reducible rfl)
  try simp only [Act.put, List.setIfInBounds_toArray, List.set_cons_zero, List.set_cons_succ]
  refine calm_pure (v := ?cv142) (by rfl) (fun w' => ?ch142) ?cr142
  case ch142 => (go_simp; first | done | with_reducible rfl)
  try simp only [Act.put, List.setIfInBounds_toArray, List.set_cons_zero, List.set_cons_succ]
  refine calm_pure (v := ?cv145) (by rfl) (fun w' => ?ch145) ?cr145
  case ch145 => (go_simp; first | done | with_reducible rfl)
  try simp only [Act.put, List.setIfInBounds_toArray, List.set_cons_zero, List.set_cons_succ]
  refine calm_pure (v := ?cv148) (by rfl) (fun w' => ?ch148) ?cr148
  case ch148 => (go_simp; first | done | with_reducible rfl)
  try simp only [Act.put, List.setIfInBounds_toArray, List.set_cons_zero, List.set_cons_succ]
  refine calm_load 27 _ (w4.heap.size) 0 ([.int .u64 ((hiN n1 : Nat) : Int), .int .u64 ((loN n1 : Nat) : Int)]) _ (by rfl) rfl rfl (fun w' h => (h.box (w4.heap.size, [.int .u64 ((hiN n1 : Nat) : Int), .int .u64 ((loN n1 : Nat) : Int)]) (by simp)).range) Tryd.underlying27 rfl (by first | exact hMi.out | exact hNi.out | exact hCi.out | exact hDi.out | kernel_rfl) ?_
  try simp only [Act.put, List.setIfInBounds_toArray, List.set_cons_zero, List.set_cons_succ]
  refine calm_read (v := .agg #[.int .u64 ((hiN mostN : Nat) : Int), .int .u64 ((loN mostN : Nat) : Int)]) (by rfl) (fun w' h => ?chm) ?_
  case chm =>
    obtain ⟨m0, m1, ml⟩ := h.mo
    go_simp
  try simp only [Act.put, List.setIfInBounds_toArray, List.set_cons_zero, List.set_cons_succ]
  refine calm_pure (v := ?cv158) (by rfl) (fun w' => ?ch158) ?cr158
  case ch158 => (go_simp; first | done | with_reducible rfl)
  try simp only [Act.put, List.setIfInBounds_toArray, List.set_cons_zero, List.set_cons_succ]
  refine calm_pure (v := ?cv161) (by rfl) (fun w' => ?ch161) ?cr161
  case ch161 => (go_simp; first | done | with_reducible rfl)
  try simp only [Act.put, List.setIfInBounds_toArray, List.set_cons_zero, List.set_cons_succ]
  refine calm_pure (v := ?cv164) (by rfl) (fun w' => ?ch164) ?cr164
  case ch164 => (go_simp; first | done | with_reducible rfl)
  try simp only [Act.put, List.setIfInBounds_toArray, List.set_cons_zero, List.set_cons_succ]
  intro w8 hm8
  go_wp2
  go_ret
  exact ⟨rfl, hm8.bel⟩
theorem shelfUnlike_any (L : LandedSh Most) (p q : Place) (hp : p.Wf) (hq : q.Wf) (w : World) (hM : Most w) : Calls Tryd.prog 5 #[placeV p, placeV q] w fun e w' => e = .returned (.bool true) ∧ Below w.heap.size w w' := by
  by_cases hout : 100 < p.Good.size + p.Site.size + q.Good.size + q.Site.size ∨ goodPl p = false ∨ goodPl q = false
  · exact shelfUnlike_out L p q hp hq w hM hout
  · refine shelfUnlike_in L p q hp hq w hM (fun e => hout (.inl e)) ?_ ?_
    · cases h : goodPl p
      · exact absurd (.inr (.inl h)) hout
      · rfl
    · cases h : goodPl q
      · exact absurd (.inr (.inr h)) hout
      · rfl
end
end Go.Proofs.YtdphflbgecnhkaaDoor
