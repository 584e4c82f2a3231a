/- Stage 10: the walk of XferAgain. No condition but the landed package's. -/
import Derived.Test.YtlalkfebedjlgaaDoorZPl
import Derived.Test.YtlalkfebedjlgaaDoorZXk
namespace Go.Proofs.YtlalkfebedjlgaaDoor
open Go.RowKit Go.Sort Wm Cr

section
variable {Mo : World → Prop} {Wr : (Nat → Prop) → World → Nat → ByteArray → Prop} {Rd : (Nat → Prop) → World → Nat → Option ByteArray → Prop}
set_option maxRecDepth 100000 in
set_option maxHeartbeats 4000000 in
theorem xferAgain_main (L : LandedXf Mo Wr Rd) (a b : Tran) (ha : a.Wf) (hb : b.Wf) (w : World) (hM : Mo w) (hf1 : 0 ≤ a.Flags) (hf2 : 0 ≤ b.Flags) :
    Calls Tryd.prog 5 #[tranV a, tranV b] w fun e w' => e = .returned (.bool true) ∧ Below w.heap.size w w' := by
  have hm0 := ((Hx.refl hM).new L.later a.cells 26).new L.later b.cells 26
  rw [World.size_alloc] at hm0
  have hal := Lib.hid (fun W (h : Hx Mo w W [(w.heap.size + 1, b.cells), (w.heap.size, a.cells)]) => h.ask L.later (xferAlive_any L W h.mo))
  have f1 := ha.Flags
  have n1 : ¬ a.Flags < 0 := by omega
  have n2 : ¬ b.Flags < 0 := by omega
  obtain ⟨fl, hfl⟩ : ∃ fl, bits .or .i64 a.Flags 1 = fl := ⟨_, rfl⟩
  have hor := bits_or (k := 1) hf1 f1.2 (by decide)
  rw [show ((1 : Nat) : Int) = 1 from rfl, hfl] at hor
  have hlt : a.Flags.toNat ||| 1 < 2 ^ 63 := Nat.or_lt_two_pow (by omega) (by decide)
  have hpt := or1_part a.Flags.toNat
  have hfl0 : 0 ≤ fl ∧ fl ≤ 9223372036854775807 := by omega
  have hfl2 : fl / 2 = a.Flags / 2 := by omega
  clear hlt hpt hor
  obtain ⟨c, hc⟩ : ∃ c : Tran, c = { a with Flags := fl } := ⟨_, rfl⟩
  have hcw : c.Wf := by subst hc; exact ⟨ha.Id, ha.Debit, ha.Credit, ha.Amount, ha.Pending, ha.Timeout, ha.Ledger, ha.Code, by constructor <;> (dsimp only; omega), ha.Stamp, ha.Born⟩
  have hc0 : 0 ≤ c.Flags := by subst hc; exact hfl0.1
  have hcp : plainT c = plainT a := by subst hc; exact plainT_or a fl hfl2
  have k1 := Lib.hid (fun n W (h : Hx Mo w W [(n, c.cells), (w.heap.size + 1, b.cells), (w.heap.size, a.cells)]) => h.ask L.later (L.again a b W ha hb hf1 hf2))
  have k2 := Lib.hid (fun n W (h : Hx Mo w W [(n, c.cells), (w.heap.size + 1, b.cells), (w.heap.size, a.cells)]) => h.ask L.later (refagainT_any a b ha hb hf1 hf2 W))
  have k3 := Lib.hid (fun n W (h : Hx Mo w W [(n, c.cells), (w.heap.size + 1, b.cells), (w.heap.size, a.cells)]) => h.ask L.later (L.again a c W ha hcw hf1 hc0))
  have k4 := Lib.hid (fun n W (h : Hx Mo w W [(n, c.cells), (w.heap.size + 1, b.cells), (w.heap.size, a.cells)]) => h.ask L.later (L.again c a W hcw ha hc0 hf1))
  rw [againT_pos hcp.symm] at k3
  rw [againT_pos hcp] at k4
  generalize againT a b = x at *
  have hnew := Lib.hid (fun W (h : Hx Mo w W [(w.heap.size + 1, b.cells), (w.heap.size, a.cells)]) => h.new L.later c.cells 26)
  have hd := Lib.hid (fun n W (h : Hx Mo w W [(n, c.cells), (w.heap.size + 1, b.cells), (w.heap.size, a.cells)]) => h.drew L.later)
  replace hc := Lib.hid hc
  clear hcp hfl0 hfl2 f1
  rw [tranV_eq, tranV_eq]
  go_enter Tryd.func5, Tryd.ntmps5
  go_wp2_with fail
  refine (hal.out _ hm0).mono ?_
  rintro e w1 ⟨rfl, hm1⟩
  obtain ⟨z0, z1, z2, z3, z4, z5, z6, z7, z8, z9, z10, z11, z12, z13, z14, z15, z16, y0, y1, y2, y3, y4, y5, y6, y7, y8, y9, y10, y11, y12, y13, y14, y15, y16, -⟩ := tran_two' (hm1.box (w.heap.size, a.cells) (by simp)) (hm1.box (w.heap.size + 1, b.cells) (by simp)) trivial
  go_wp2_with fail
  have hm2 := hnew.out _ hm1
  obtain ⟨w2, hw2⟩ : ∃ w2, w2 = w1.alloc (Obj.cells c.cells.toArray 26) := ⟨_, rfl⟩
  rw [← hw2] at hm2
  rw [hc.out] at hw2
  dsimp only [Tran.cells] at hw2
  rw [← hw2]
  clear hw2 hc hnew hm1 hal hm0 z0 z1 z2 z3 z4 z5 z6 z7 z8 z9 z10 z11 z12 z13 z14 z15 z16 y0 y1 y2 y3 y4 y5 y6 y7 y8 y9 y10 y11 y12 y13 y14 y15 y16
  have hm2d := hd.out _ _ hm2
  have hVa : tranV a = .agg a.cells.toArray := rfl
  have hVb : tranV b = .agg b.cells.toArray := rfl
  have hVc : tranV c = .agg c.cells.toArray := rfl
  rw [hVa, hVb] at k1 k2
  rw [hVa, hVc] at k3
  rw [hVc, hVa] at k4
  rw [← tranV_eq a, ← tranV_eq b]
  generalize tranV a = Va at *
  generalize tranV b = Vb at *
  clear hVa hVb hVc
  refine wp_region_calm (fun w' => Hx Mo w w' [(w1.heap.size, c.cells), (w.heap.size + 1, b.cells), (w.heap.size, a.cells)]) (by kernel_rfl) (by kernel_rfl) (hm2.drew L.later) ?_
  refine calm_load 26 _ (w.heap.size) 0 (a.cells) _ (by rfl) rfl rfl (fun w' h => (h.box (w.heap.size, a.cells) (by simp)).range) Tryd.underlying26 rfl (by first | exact hMi.out | exact hNi.out | exact hCi.out | exact hDi.out | kernel_rfl) ?_
  try simp only [Act.put, List.setIfInBounds_toArray, List.set_cons_zero, List.set_cons_succ]
  refine calm_load 26 _ (w.heap.size + 1) 0 (b.cells) _ (by rfl) rfl rfl (fun w' h => (h.box (w.heap.size + 1, b.cells) (by simp)).range) Tryd.underlying26 rfl (by first | exact hMi.out | exact hNi.out | exact hCi.out | exact hDi.out | kernel_rfl) ?_
  try simp only [Act.put, List.setIfInBounds_toArray, List.set_cons_zero, List.set_cons_succ]
  refine calm_call 17 #[.agg a.cells.toArray, .agg b.cells.toArray] (by rfl) (fun w' => by go_simp) (fun w' h => (k1.out _ w' h)) ?_
  try simp only [Act.put, List.setIfInBounds_toArray, List.set_cons_zero, List.set_cons_succ]
  refine calm_load 26 _ (w.heap.size) 0 (a.cells) _ (by rfl) rfl rfl (fun w' h => (h.box (w.heap.size, a.cells) (by simp)).range) Tryd.underlying26 rfl (by first | exact hMi.out | exact hNi.out | exact hCi.out | exact hDi.out | kernel_rfl) ?_
  try simp only [Act.put, List.setIfInBounds_toArray, List.set_cons_zero, List.set_cons_succ]
  refine calm_load 26 _ (w.heap.size + 1) 0 (b.cells) _ (by rfl) rfl rfl (fun w' h => (h.box (w.heap.size + 1, b.cells) (by simp)).range) Tryd.underlying26 rfl (by first | exact hMi.out | exact hNi.out | exact hCi.out | exact hDi.out | kernel_rfl) ?_
  try simp only [Act.put, List.setIfInBounds_toArray, List.set_cons_zero, List.set_cons_succ]
  refine calm_call 18 #[.agg a.cells.toArray, .agg b.cells.toArray] (by rfl) (fun w' => by go_simp) (fun w' h => (k2.out _ w' h)) ?_
  try simp only [Act.put, List.setIfInBounds_toArray, List.set_cons_zero, List.set_cons_succ]
  refine calm_pure (v := ?cv79) (by rfl) (fun w' => ?ch79) ?cr79
  case ch79 => (go_simp; first | done | with_reducible rfl)
  try simp only [Act.put, List.setIfInBounds_toArray, List.set_cons_zero, List.set_cons_succ]
  refine calm_pure (v := ?cv82) (by rfl) (fun w' => ?ch82) ?cr82
  case ch82 => (go_simp; first | done | with_reducible rfl)
  try simp only [Act.put, List.setIfInBounds_toArray, List.set_cons_zero, List.set_cons_succ]
  refine calm_load 26 _ (w.heap.size) 0 (a.cells) _ (by rfl) rfl rfl (fun w' h => (h.box (w.heap.size, a.cells) (by simp)).range) Tryd.underlying26 rfl (by first | exact hMi.out | exact hNi.out | exact hCi.out | exact hDi.out | kernel_rfl) ?_
  try simp only [Act.put, List.setIfInBounds_toArray, List.set_cons_zero, List.set_cons_succ]
  refine calm_load 26 _ (w1.heap.size) 0 (c.cells) _ (by rfl) rfl rfl (fun w' h => (h.box (w1.heap.size, c.cells) (by simp)).range) Tryd.underlying26 rfl (by first | exact hMi.out | exact hNi.out | exact hCi.out | exact hDi.out | kernel_rfl) ?_
  try simp only [Act.put, List.setIfInBounds_toArray, List.set_cons_zero, List.set_cons_succ]
  refine calm_call 17 #[.agg a.cells.toArray, .agg c.cells.toArray] (by rfl) (fun w' => by go_simp) (fun w' h => (k3.out _ w' h)) ?_
  try simp only [Act.put, List.setIfInBounds_toArray, List.set_cons_zero, List.set_cons_succ]
  refine calm_pure (v := ?cv91) (by rfl) (fun w' => ?ch91) ?cr91
  case ch91 => (go_simp; first | done | with_reducible rfl)
  try simp only [Act.put, List.setIfInBounds_toArray, List.set_cons_zero, List.set_cons_succ]
  refine calm_pure (v := ?cv94) (by rfl) (fun w' => ?ch94) ?cr94
  case ch94 => (go_simp; first | done | with_reducible rfl)
  try simp only [Act.put, List.setIfInBounds_toArray, List.set_cons_zero, List.set_cons_succ]
  refine calm_pure (v := ?cv97) (by rfl) (fun w' => ?ch97) ?cr97
  case ch97 => (go_simp; first | done | with_reducible rfl)
  try simp only [Act.put, List.setIfInBounds_toArray, List.set_cons_zero, List.set_cons_succ]
  refine calm_load 26 _ (w1.heap.size) 0 (c.cells) _ (by rfl) rfl rfl (fun w' h => (h.box (w1.heap.size, c.cells) (by simp)).range) Tryd.underlying26 rfl (by first | exact hMi.out | exact hNi.out | exact hCi.out | exact hDi.out | kernel_rfl) ?_
  try simp only [Act.put, List.setIfInBounds_toArray, List.set_cons_zero, List.set_cons_succ]
  refine calm_load 26 _ (w.heap.size) 0 (a.cells) _ (by rfl) rfl rfl (fun w' h => (h.box (w.heap.size, a.cells) (by simp)).range) Tryd.underlying26 rfl (by first | exact hMi.out | exact hNi.out | exact hCi.out | exact hDi.out | kernel_rfl) ?_
  try simp only [Act.put, List.setIfInBounds_toArray, List.set_cons_zero, List.set_cons_succ]
  refine calm_call 17 #[.agg c.cells.toArray, .agg a.cells.toArray] (by rfl) (fun w' => by go_simp) (fun w' h => (k4.out _ w' h)) ?_
  try simp only [Act.put, List.setIfInBounds_toArray, List.set_cons_zero, List.set_cons_succ]
  refine calm_pure (v := ?cv106) (by rfl) (fun w' => ?ch106) ?cr106
  case ch106 => (go_simp; first | done | with_reducible rfl)
  try simp only [Act.put, List.setIfInBounds_toArray, List.set_cons_zero, List.set_cons_succ]
  refine calm_pure (v := ?cv109) (by rfl) (fun w' => ?ch109) ?cr109
  case ch109 => (go_simp; first | done | with_reducible rfl)
  try simp only [Act.put, List.setIfInBounds_toArray, List.set_cons_zero, List.set_cons_succ]
  refine calm_pure (v := ?cv112) (by rfl) (fun w' => ?ch112) ?cr112
  case ch112 => (go_simp; first | done | with_reducible rfl)
  try simp only [Act.put, List.setIfInBounds_toArray, List.set_cons_zero, List.set_cons_succ]
  intro w3 hm3
  go_wp2
  go_ret
  exact ⟨rfl, hm3.bel⟩
theorem xferAgain_any (L : LandedXf Mo Wr Rd) (a b : Tran) (ha : a.Wf) (hb : b.Wf) (w : World) (hM : Mo w) :
    Calls Tryd.prog 5 #[tranV a, tranV b] w fun e w' => e = .returned (.bool true) ∧ Below w.heap.size w w' := by
  by_cases h1 : a.Flags < 0
  · exact xferAgain_low L a b w hM h1
  · by_cases h2 : b.Flags < 0
    · exact xferAgain_low2 L a b w hM h1 h2
    · exact xferAgain_main L a b ha hb w hM (by omega) (by omega)
end
end Go.Proofs.YtlalkfebedjlgaaDoor
