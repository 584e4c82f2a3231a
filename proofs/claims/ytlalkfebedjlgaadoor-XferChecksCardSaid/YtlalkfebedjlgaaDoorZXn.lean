/- Stage 10: the walk of XferChecks. No condition but the landed package's. -/
import Derived.Test.YtlalkfebedjlgaaDoorZPl
import Derived.Test.YtlalkfebedjlgaaDoorZXf
namespace Go.Proofs.YtlalkfebedjlgaaDoor
open Go.RowKit Go.Sort Wm Cr

section
variable {Mo : World → Prop} {Wr : (Nat → Prop) → World → Nat → ByteArray → Prop} {Rd : (Nat → Prop) → World → Nat → Option ByteArray → Prop}
set_option maxRecDepth 100000 in
set_option maxHeartbeats 1000000 in
theorem xferChecks_any (L : LandedXf Mo Wr Rd) (a : Tran) (ha : a.Wf) (w : World) (hM : Mo w) :
    Calls Tryd.prog 3 #[tranV a] w fun e w' => e = .returned (.bool true) ∧ Below w.heap.size w w' := by
  have hal := Lib.hid (fun W (h : Hx Mo w W [(w.heap.size, a.cells)]) => h.ask L.later (xferAlive_any L W h.mo))
  have hc := Lib.hid (fun W (h : Hx Mo w W [(w.heap.size, a.cells)]) => h.ask L.later (L.check a W ha h.mo))
  have hr := Lib.hid (fun W (h : Hx Mo w W [(w.heap.size, a.cells)]) => h.ask L.later (refcheckT_any a ha W))
  have hm0 := (Hx.refl hM).new L.later a.cells 26
  have hd := Lib.hid (fun W (h : Hx Mo w W [(w.heap.size, a.cells)]) => h.drew L.later)
  have hMi := Lib.hid (show (Tryd.prog.info? 26).map (·.size) = some a.cells.length by rw [Tran.cells_length]; kernel_rfl)
  have hVa : tranV a = .agg a.cells.toArray := rfl
  generalize chkT a = x at *
  rw [hVa] at hc hr
  rw [hVa]
  clear ha L hM hVa
  generalize a.cells = M at *
  go_enter Tryd.func3, Tryd.ntmps3
  go_wp2_with fail
  refine (hal.out _ hm0).mono ?_
  rintro e w1 ⟨rfl, hm1⟩
  go_wp2_with fail
  refine wp_region_calm (fun w' => Hx Mo w w' [(w.heap.size, M)]) (by kernel_rfl) (by kernel_rfl) (hd.out _ hm1) ?_
  refine calm_load 26 _ (w.heap.size) 0 (M) _ (by rfl) rfl rfl (fun w' h => (h.box (w.heap.size, M) (by simp)).range) Tryd.underlying26 rfl (by first | exact hMi.out | exact hNi.out | exact hCi.out | exact hDi.out | kernel_rfl) ?_
  try simp only [Act.put, List.setIfInBounds_toArray, List.set_cons_zero, List.set_cons_succ]
  refine calm_call 10 #[.agg M.toArray] (by rfl) (fun w' => by go_simp) (fun w' h => (hc.out w' h)) ?_
  try simp only [Act.put, List.setIfInBounds_toArray, List.set_cons_zero, List.set_cons_succ]
  refine calm_load 26 _ (w.heap.size) 0 (M) _ (by rfl) rfl rfl (fun w' h => (h.box (w.heap.size, M) (by simp)).range) Tryd.underlying26 rfl (by first | exact hMi.out | exact hNi.out | exact hCi.out | exact hDi.out | kernel_rfl) ?_
  try simp only [Act.put, List.setIfInBounds_toArray, List.set_cons_zero, List.set_cons_succ]
  refine calm_call 11 #[.agg M.toArray] (by rfl) (fun w' => by go_simp) (fun w' h => (hr.out w' h)) ?_
  try simp only [Act.put, List.setIfInBounds_toArray, List.set_cons_zero, List.set_cons_succ]
  refine calm_pure (v := ?cv38) (by rfl) (fun w' => ?ch38) ?cr38
  case ch38 => (go_simp; first | done | with_reducible rfl)
  try simp only [Act.put, List.setIfInBounds_toArray, List.set_cons_zero, List.set_cons_succ]
  refine calm_pure (v := ?cv41) (by rfl) (fun w' => ?ch41) ?cr41
  case ch41 => (go_simp; first | done | with_reducible rfl)
  try simp only [Act.put, List.setIfInBounds_toArray, List.set_cons_zero, List.set_cons_succ]
  intro w9 hm9
  go_wp2
  go_ret
  exact ⟨rfl, hm9.bel⟩
end
end Go.Proofs.YtlalkfebedjlgaaDoor
