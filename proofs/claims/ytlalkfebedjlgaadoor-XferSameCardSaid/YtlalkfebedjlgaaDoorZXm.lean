/- Stage 10: the walk of XferSame. No condition but the landed package's. -/
import Derived.Test.YtlalkfebedjlgaaDoorZPl
import Derived.Test.YtlalkfebedjlgaaDoorZXk
namespace Go.Proofs.YtlalkfebedjlgaaDoor
open Go.RowKit Go.Sort Wm Cr

section
variable {Mo : World → Prop} {Wr : (Nat → Prop) → World → Nat → ByteArray → Prop} {Rd : (Nat → Prop) → World → Nat → Option ByteArray → Prop}
set_option maxRecDepth 100000 in
set_option maxHeartbeats 2000000 in
theorem xferSame_low (L : LandedXf Mo Wr Rd) (a b : Tran) (w : World) (hM : Mo w) (h1 : a.Flags < 0) :
    Calls Tryd.prog 8 #[tranV a, tranV b] w fun e w' => e = .returned (.bool true) ∧ Below w.heap.size w w' := by
  have hm0 := ((Hx.refl hM).new L.later a.cells 26).new L.later b.cells 26
  rw [World.size_alloc] at hm0
  have hal := Lib.hid (fun W (h : Hx Mo w W [(w.heap.size + 1, b.cells), (w.heap.size, a.cells)]) => h.ask L.later (xferAlive_any L W h.mo))
  have a13 : a.cells[13]? = some (.int .i64 a.Flags) := rfl
  have b13 : b.cells[13]? = some (.int .i64 b.Flags) := rfl
  have hVa : tranV a = .agg a.cells.toArray := rfl
  have hVb : tranV b = .agg b.cells.toArray := rfl
  rw [hVa, hVb]
  clear hVa hVb
  generalize a.cells = Ma at *
  generalize b.cells = Mb at *
  go_enter Tryd.func8, Tryd.ntmps8
  go_wp2_with fail
  refine (hal.out _ hm0).mono ?_
  rintro e w1 ⟨rfl, hm1⟩
  have z13 := (hm1.box (w.heap.size, Ma) (by simp)).spot 13 _ a13
  have zl := (hm1.box (w.heap.size, Ma) (by simp)).lt
  have y13 := (hm1.box (w.heap.size + 1, Mb) (by simp)).spot 13 _ b13
  have yl := (hm1.box (w.heap.size + 1, Mb) (by simp)).lt
  go_wp2
  go_ret
  exact ⟨rfl, hm1.bel⟩
set_option maxRecDepth 100000 in
set_option maxHeartbeats 2000000 in
theorem xferSame_low2 (L : LandedXf Mo Wr Rd) (a b : Tran) (w : World) (hM : Mo w) (h1 : ¬ a.Flags < 0) (h2 : b.Flags < 0) :
    Calls Tryd.prog 8 #[tranV a, tranV b] w fun e w' => e = .returned (.bool true) ∧ Below w.heap.size w w' := by
  have hm0 := ((Hx.refl hM).new L.later a.cells 26).new L.later b.cells 26
  rw [World.size_alloc] at hm0
  have hal := Lib.hid (fun W (h : Hx Mo w W [(w.heap.size + 1, b.cells), (w.heap.size, a.cells)]) => h.ask L.later (xferAlive_any L W h.mo))
  have a13 : a.cells[13]? = some (.int .i64 a.Flags) := rfl
  have b13 : b.cells[13]? = some (.int .i64 b.Flags) := rfl
  have hVa : tranV a = .agg a.cells.toArray := rfl
  have hVb : tranV b = .agg b.cells.toArray := rfl
  rw [hVa, hVb]
  clear hVa hVb
  generalize a.cells = Ma at *
  generalize b.cells = Mb at *
  go_enter Tryd.func8, Tryd.ntmps8
  go_wp2_with fail
  refine (hal.out _ hm0).mono ?_
  rintro e w1 ⟨rfl, hm1⟩
  have z13 := (hm1.box (w.heap.size, Ma) (by simp)).spot 13 _ a13
  have zl := (hm1.box (w.heap.size, Ma) (by simp)).lt
  have y13 := (hm1.box (w.heap.size + 1, Mb) (by simp)).spot 13 _ b13
  have yl := (hm1.box (w.heap.size + 1, Mb) (by simp)).lt
  go_wp2
  go_ret
  exact ⟨rfl, hm1.bel⟩
set_option maxRecDepth 100000 in
set_option maxHeartbeats 4000000 in
theorem xferSame_main (L : LandedXf Mo Wr Rd) (a b : Tran) (ha : a.Wf) (hb : b.Wf) (w : World) (hM : Mo w) (hf1 : 0 ≤ a.Flags) (hf2 : 0 ≤ b.Flags) :
    Calls Tryd.prog 8 #[tranV a, tranV b] w fun e w' => e = .returned (.bool true) ∧ Below w.heap.size w w' := by
  have hm0 := ((Hx.refl hM).new L.later a.cells 26).new L.later b.cells 26
  rw [World.size_alloc] at hm0
  have hal := Lib.hid (fun W (h : Hx Mo w W [(w.heap.size + 1, b.cells), (w.heap.size, a.cells)]) => h.ask L.later (xferAlive_any L W h.mo))
  have f2 := hb.Flags
  have n1 : ¬ a.Flags < 0 := by omega
  have n2 : ¬ b.Flags < 0 := by omega
  have hxor := bits_flip f2.1 f2.2
  obtain ⟨fl, hfl⟩ : ∃ fl, flipW b.Flags = fl := ⟨_, rfl⟩
  obtain ⟨g1, g2, g3⟩ := flip_same b.Flags
  rw [hfl] at g1 g2 g3 hxor
  obtain ⟨c, hc⟩ : ∃ c : Tran, c = { b with Flags := fl } := ⟨_, rfl⟩
  have hcw : c.Wf := by subst hc; exact ⟨hb.Id, hb.Debit, hb.Credit, hb.Amount, hb.Pending, hb.Timeout, hb.Ledger, hb.Code, by constructor <;> (dsimp only; omega), hb.Stamp, hb.Born⟩
  have hc0 : 0 ≤ c.Flags := by subst hc; exact g2 hf2
  have hcp : plainT c = plainT b := by subst hc; exact plainT_or b fl g1
  obtain ⟨lo, hlo⟩ : ∃ lo : Nat, lo = (loN a.Amount + 1) % 18446744073709551616 := ⟨_, rfl⟩
  have hlo1 : lo < 18446744073709551616 := by omega
  have hne : lo ≠ loN a.Amount := by have := loN_lt a.Amount; omega
  have hwr : IntKind.u64.wrap (((loN a.Amount : Nat) : Int) + 1) = ((lo : Nat) : Int) := by simp [IntKind.wrap, IntKind.bits, IntKind.signed]; omega
  obtain ⟨d, hd⟩ : ∃ d : Tran, d = { a with Amount := num (hiN a.Amount) lo } := ⟨_, rfl⟩
  have hdw : d.Wf := by
    subst hd
    refine ⟨ha.Id, ha.Debit, ha.Credit, ?_, ha.Pending, ha.Timeout, ha.Ledger, ha.Code, ha.Flags, ha.Stamp, ha.Born⟩
    have := hiN_lt ha.Amount
    rw [big_eq]
    dsimp only
    unfold num
    omega
  have hd0 : 0 ≤ d.Flags := by subst hd; exact hf1
  have hdp : ¬ plainT a = plainT d := fun e => by
    have h1 := congrArg (fun t : Tran => loN t.Amount) e
    subst hd
    dsimp only [plainT] at h1
    rw [loN_num hlo1] at h1
    exact hne h1.symm
  have hcs : c.cells = b.cells.set 13 (.int .i64 fl) := by subst hc; rfl
  have hds : d.cells = a.cells.set 7 (.int .u64 ((lo : Nat) : Int)) := by
    subst hd
    unfold Tran.cells
    dsimp only
    rw [hiN_num hlo1, loN_num hlo1]
    rfl
  have k1 := Lib.hid (fun n m W (h : Hx Mo w W [(m, d.cells), (n, c.cells), (w.heap.size + 1, b.cells), (w.heap.size, a.cells)]) => h.ask L.later (L.again a b W ha hb hf1 hf2))
  have k2 := Lib.hid (fun n m W (h : Hx Mo w W [(m, d.cells), (n, c.cells), (w.heap.size + 1, b.cells), (w.heap.size, a.cells)]) => h.ask L.later (L.again b a W hb ha hf2 hf1))
  have k3 := Lib.hid (fun n m W (h : Hx Mo w W [(m, d.cells), (n, c.cells), (w.heap.size + 1, b.cells), (w.heap.size, a.cells)]) => h.ask L.later (L.again a c W ha hcw hf1 hc0))
  have k4 := Lib.hid (fun n m W (h : Hx Mo w W [(m, d.cells), (n, c.cells), (w.heap.size + 1, b.cells), (w.heap.size, a.cells)]) => h.ask L.later (L.again a d W ha hdw hf1 hd0))
  rw [againT_symm b a] at k2
  rw [againT_plain rfl hcp] at k3
  rw [againT_neg hdp] at k4
  generalize againT a b = x at *
  have a13 : a.cells[13]? = some (.int .i64 a.Flags) := rfl
  have b13 : b.cells[13]? = some (.int .i64 b.Flags) := rfl
  have a7 : a.cells[7]? = some (.int .u64 ((loN a.Amount : Nat) : Int)) := rfl
  have hVa : tranV a = .agg a.cells.toArray := rfl
  have hVb : tranV b = .agg b.cells.toArray := rfl
  have hVc : tranV c = .agg c.cells.toArray := rfl
  have hVd : tranV d = .agg d.cells.toArray := rfl
  have hLa := Lib.hid (Tran.cells_length a)
  have hLb := Lib.hid (Tran.cells_length b)
  have hMi := Lib.hid (show (Tryd.prog.info? 26).map (·.size) = some a.cells.length by rw [Tran.cells_length]; kernel_rfl)
  have hMs := Lib.hid (show (Tryd.prog.info? 26).map (·.size) = some a.cells.toArray.size by rw [List.size_toArray]; exact hMi.out)
  have hM1 := Lib.hid (show a.cells.toArray.all (·.oneCell') = true by unfold Tran.cells; simp [Value.oneCell'])
  have hNi := Lib.hid (show (Tryd.prog.info? 26).map (·.size) = some b.cells.length by rw [Tran.cells_length]; kernel_rfl)
  have hNs := Lib.hid (show (Tryd.prog.info? 26).map (·.size) = some b.cells.toArray.size by rw [List.size_toArray]; exact hNi.out)
  have hN1 := Lib.hid (show b.cells.toArray.all (·.oneCell') = true by unfold Tran.cells; simp [Value.oneCell'])
  have hCi := Lib.hid (show (Tryd.prog.info? 26).map (·.size) = some c.cells.length by rw [Tran.cells_length]; kernel_rfl)
  have hDi := Lib.hid (show (Tryd.prog.info? 26).map (·.size) = some d.cells.length by rw [Tran.cells_length]; kernel_rfl)
  rw [hVa, hVb] at k1
  rw [hVb, hVa] at k2
  rw [hVa, hVc] at k3
  rw [hVa, hVd] at k4
  rw [hVa, hVb]
  clear hVa hVb hVc hVd hcp hdp hcw hdw hc0 hd0 ha hb hlo hne hlo1 hf1 hf2 f2 g1 g2 g3 hc hd
  have hnew1 := Lib.hid (fun W (h : Hx Mo w W [(w.heap.size + 1, b.cells), (w.heap.size, a.cells)]) => h.new L.later c.cells 26)
  have hnew2 := Lib.hid (fun n W (h : Hx Mo w W [(n, c.cells), (w.heap.size + 1, b.cells), (w.heap.size, a.cells)]) => h.new L.later d.cells 26)
  have hdr := Lib.hid (fun n m W (h : Hx Mo w W [(m, d.cells), (n, c.cells), (w.heap.size + 1, b.cells), (w.heap.size, a.cells)]) => h.drew L.later)
  generalize a.cells = Ma at *
  generalize b.cells = Mb at *
  generalize c.cells = Mc at *
  generalize d.cells = Md at *
  replace hcs := Lib.hid hcs
  replace hds := Lib.hid hds
  have hst : ∀ w0 : World, (storeCells ⟨w0.heap.size, 0, none⟩ Ma 0).run Tryd.prog (w0.alloc (.cells #[.int .u64 0, .int .u64 0, .int .u64 0, .int .u64 0, .int .u64 0, .int .u64 0, .int .u64 0, .int .u64 0, .int .u64 0, .int .u64 0, .int .i64 0, .int .i64 0, .int .i64 0, .int .i64 0, .int .i64 0, .int .i64 0] 26)) = .ok () (w0.alloc (.cells Ma.toArray 26)) :=
    fun w0 => run_storeCells_new (P := Tryd.prog) w0 26 _ Ma.toArray hMs.out (show (16 : Nat) = _ from ((List.size_toArray ..).trans hLa.out).symm) hM1.out
  have hst2 : ∀ w0 : World, (storeCells ⟨w0.heap.size, 0, none⟩ Mb 0).run Tryd.prog (w0.alloc (.cells #[.int .u64 0, .int .u64 0, .int .u64 0, .int .u64 0, .int .u64 0, .int .u64 0, .int .u64 0, .int .u64 0, .int .u64 0, .int .u64 0, .int .i64 0, .int .i64 0, .int .i64 0, .int .i64 0, .int .i64 0, .int .i64 0] 26)) = .ok () (w0.alloc (.cells Mb.toArray 26)) :=
    fun w0 => run_storeCells_new (P := Tryd.prog) w0 26 _ Mb.toArray hNs.out (show (16 : Nat) = _ from ((List.size_toArray ..).trans hLb.out).symm) hN1.out
  go_enter Tryd.func8, Tryd.ntmps8
  go_wp2_with fail
  refine (hal.out _ hm0).mono ?_
  rintro e w1 ⟨rfl, hm1⟩
  have z13 := (hm1.box (w.heap.size, Ma) (by simp)).spot 13 _ a13
  have zl := (hm1.box (w.heap.size, Ma) (by simp)).lt
  have y13 := (hm1.box (w.heap.size + 1, Mb) (by simp)).spot 13 _ b13
  have yl := (hm1.box (w.heap.size + 1, Mb) (by simp)).lt
  have rb := Lib.hid (hm1.box (w.heap.size + 1, Mb) (by simp)).range
  have hm2 := hnew1.out _ hm1
  have ra := Lib.hid (hm2.box (w.heap.size, Ma) (by simp)).range
  have hm3 := hnew2.out _ _ hm2
  rw [World.size_alloc] at hm3
  rw [hcs.out] at ra
  have hst3 := hst (w1.alloc (.cells (Mb.set 13 (.int .i64 fl)).toArray 26))
  rw [World.size_alloc] at hst3
  obtain ⟨h7, a7'⟩ := List.getElem?_eq_some_iff.1 a7
  go_wp2_with (first | (refine wpList_load_midg rfl _ _ rfl (w.heap.size + 1) 0 rfl Mb _ rb.out Tryd.underlying26 rfl hNi.out ?_) | (refine wpList_load_midg rfl _ _ rfl w.heap.size 0 rfl Ma _ ra.out Tryd.underlying26 rfl hMi.out ?_))
  rw [← hcs.out, ← hds.out]
  clear hst hst2 hst3 z13 zl y13 yl rb ra hm2 hm1
  refine wp_region_calm (fun w' => Hx Mo w w' [(w1.heap.size + 1, Md), (w1.heap.size, Mc), (w.heap.size + 1, Mb), (w.heap.size, Ma)]) (by kernel_rfl) (by kernel_rfl) (hdr.out _ _ _ hm3) ?_
  refine calm_load 26 _ (w.heap.size) 0 (Ma) _ (by rfl) rfl rfl (fun w' h => (h.box (w.heap.size, Ma) (by simp)).range) Tryd.underlying26 rfl (by first | exact hMi.out | exact hNi.out | exact hCi.out | exact hDi.out | kernel_rfl) ?_
  try simp only [Act.put, List.setIfInBounds_toArray, List.set_cons_zero, List.set_cons_succ]
  refine calm_load 26 _ (w.heap.size + 1) 0 (Mb) _ (by rfl) rfl rfl (fun w' h => (h.box (w.heap.size + 1, Mb) (by simp)).range) Tryd.underlying26 rfl (by first | exact hMi.out | exact hNi.out | exact hCi.out | exact hDi.out | kernel_rfl) ?_
  try simp only [Act.put, List.setIfInBounds_toArray, List.set_cons_zero, List.set_cons_succ]
  refine calm_call 17 #[.agg Ma.toArray, .agg Mb.toArray] (by rfl) (fun w' => by go_simp) (fun w' h => (k1.out _ _ w' h)) ?_
  try simp only [Act.put, List.setIfInBounds_toArray, List.set_cons_zero, List.set_cons_succ]
  refine calm_load 26 _ (w.heap.size + 1) 0 (Mb) _ (by rfl) rfl rfl (fun w' h => (h.box (w.heap.size + 1, Mb) (by simp)).range) Tryd.underlying26 rfl (by first | exact hMi.out | exact hNi.out | exact hCi.out | exact hDi.out | kernel_rfl) ?_
  try simp only [Act.put, List.setIfInBounds_toArray, List.set_cons_zero, List.set_cons_succ]
  refine calm_load 26 _ (w.heap.size) 0 (Ma) _ (by rfl) rfl rfl (fun w' h => (h.box (w.heap.size, Ma) (by simp)).range) Tryd.underlying26 rfl (by first | exact hMi.out | exact hNi.out | exact hCi.out | exact hDi.out | kernel_rfl) ?_
  try simp only [Act.put, List.setIfInBounds_toArray, List.set_cons_zero, List.set_cons_succ]
  refine calm_call 17 #[.agg Mb.toArray, .agg Ma.toArray] (by rfl) (fun w' => by go_simp) (fun w' h => (k2.out _ _ w' h)) ?_
  try simp only [Act.put, List.setIfInBounds_toArray, List.set_cons_zero, List.set_cons_succ]
  refine calm_pure (v := ?cv182) (by rfl) (fun w' => ?ch182) ?cr182
  case ch182 => (go_simp; first | done | with_reducible rfl)
  try simp only [Act.put, List.setIfInBounds_toArray, List.set_cons_zero, List.set_cons_succ]
  refine calm_pure (v := ?cv185) (by rfl) (fun w' => ?ch185) ?cr185
  case ch185 => (go_simp; first | done | with_reducible rfl)
  try simp only [Act.put, List.setIfInBounds_toArray, List.set_cons_zero, List.set_cons_succ]
  refine calm_load 26 _ (w.heap.size) 0 (Ma) _ (by rfl) rfl rfl (fun w' h => (h.box (w.heap.size, Ma) (by simp)).range) Tryd.underlying26 rfl (by first | exact hMi.out | exact hNi.out | exact hCi.out | exact hDi.out | kernel_rfl) ?_
  try simp only [Act.put, List.setIfInBounds_toArray, List.set_cons_zero, List.set_cons_succ]
  refine calm_load 26 _ (w1.heap.size) 0 (Mc) _ (by rfl) rfl rfl (fun w' h => (h.box (w1.heap.size, Mc) (by simp)).range) Tryd.underlying26 rfl (by first | exact hMi.out | exact hNi.out | exact hCi.out | exact hDi.out | kernel_rfl) ?_
  try simp only [Act.put, List.setIfInBounds_toArray, List.set_cons_zero, List.set_cons_succ]
  refine calm_call 17 #[.agg Ma.toArray, .agg Mc.toArray] (by rfl) (fun w' => by go_simp) (fun w' h => (k3.out _ _ w' h)) ?_
  try simp only [Act.put, List.setIfInBounds_toArray, List.set_cons_zero, List.set_cons_succ]
  refine calm_load 26 _ (w.heap.size) 0 (Ma) _ (by rfl) rfl rfl (fun w' h => (h.box (w.heap.size, Ma) (by simp)).range) Tryd.underlying26 rfl (by first | exact hMi.out | exact hNi.out | exact hCi.out | exact hDi.out | kernel_rfl) ?_
  try simp only [Act.put, List.setIfInBounds_toArray, List.set_cons_zero, List.set_cons_succ]
  refine calm_load 26 _ (w.heap.size + 1) 0 (Mb) _ (by rfl) rfl rfl (fun w' h => (h.box (w.heap.size + 1, Mb) (by simp)).range) Tryd.underlying26 rfl (by first | exact hMi.out | exact hNi.out | exact hCi.out | exact hDi.out | kernel_rfl) ?_
  try simp only [Act.put, List.setIfInBounds_toArray, List.set_cons_zero, List.set_cons_succ]
  refine calm_call 17 #[.agg Ma.toArray, .agg Mb.toArray] (by rfl) (fun w' => by go_simp) (fun w' h => (k1.out _ _ w' h)) ?_
  try simp only [Act.put, List.setIfInBounds_toArray, List.set_cons_zero, List.set_cons_succ]
  refine calm_pure (v := ?cv200) (by rfl) (fun w' => ?ch200) ?cr200
  case ch200 => (go_simp; first | done | with_reducible rfl)
  try simp only [Act.put, List.setIfInBounds_toArray, List.set_cons_zero, List.set_cons_succ]
  refine calm_pure (v := ?cv203) (by rfl) (fun w' => ?ch203) ?cr203
  case ch203 => (go_simp; first | done | with_reducible rfl)
  try simp only [Act.put, List.setIfInBounds_toArray, List.set_cons_zero, List.set_cons_succ]
  refine calm_pure (v := ?cv206) (by rfl) (fun w' => ?ch206) ?cr206
  case ch206 => (go_simp; first | done | with_reducible rfl)
  try simp only [Act.put, List.setIfInBounds_toArray, List.set_cons_zero, List.set_cons_succ]
  refine calm_load 26 _ (w.heap.size) 0 (Ma) _ (by rfl) rfl rfl (fun w' h => (h.box (w.heap.size, Ma) (by simp)).range) Tryd.underlying26 rfl (by first | exact hMi.out | exact hNi.out | exact hCi.out | exact hDi.out | kernel_rfl) ?_
  try simp only [Act.put, List.setIfInBounds_toArray, List.set_cons_zero, List.set_cons_succ]
  refine calm_load 26 _ (w1.heap.size + 1) 0 (Md) _ (by rfl) rfl rfl (fun w' h => (h.box (w1.heap.size + 1, Md) (by simp)).range) Tryd.underlying26 rfl (by first | exact hMi.out | exact hNi.out | exact hCi.out | exact hDi.out | kernel_rfl) ?_
  try simp only [Act.put, List.setIfInBounds_toArray, List.set_cons_zero, List.set_cons_succ]
  refine calm_call 17 #[.agg Ma.toArray, .agg Md.toArray] (by rfl) (fun w' => by go_simp) (fun w' h => (k4.out _ _ w' h)) ?_
  try simp only [Act.put, List.setIfInBounds_toArray, List.set_cons_zero, List.set_cons_succ]
  refine calm_pure (v := ?cv215) (by rfl) (fun w' => ?ch215) ?cr215
  case ch215 => (go_simp; first | done | with_reducible rfl)
  try simp only [Act.put, List.setIfInBounds_toArray, List.set_cons_zero, List.set_cons_succ]
  refine calm_pure (v := ?cv218) (by rfl) (fun w' => ?ch218) ?cr218
  case ch218 => (go_simp; first | done | with_reducible rfl)
  try simp only [Act.put, List.setIfInBounds_toArray, List.set_cons_zero, List.set_cons_succ]
  refine calm_pure (v := ?cv221) (by rfl) (fun w' => ?ch221) ?cr221
  case ch221 => (go_simp; first | done | with_reducible rfl)
  try simp only [Act.put, List.setIfInBounds_toArray, List.set_cons_zero, List.set_cons_succ]
  intro w9 hm9
  go_wp2
  go_ret
  exact ⟨rfl, hm9.bel⟩
theorem xferSame_any (L : LandedXf Mo Wr Rd) (a b : Tran) (ha : a.Wf) (hb : b.Wf) (w : World) (hM : Mo w) :
    Calls Tryd.prog 8 #[tranV a, tranV b] w fun e w' => e = .returned (.bool true) ∧ Below w.heap.size w w' := by
  by_cases h1 : a.Flags < 0
  · exact xferSame_low L a b w hM h1
  · by_cases h2 : b.Flags < 0
    · exact xferSame_low2 L a b w hM h1 h2
    · exact xferSame_main L a b ha hb w hM (by omega) (by omega)
end
end Go.Proofs.YtlalkfebedjlgaaDoor
