/- Stage 10: the walk of XferKinds. No condition but the landed package's. -/
import Derived.Test.YtlalkfebedjlgaaDoorZPl
import Derived.Test.YtlalkfebedjlgaaDoorZXc
namespace Go.Proofs.YtlalkfebedjlgaaDoor
open Go.RowKit Go.Sort Wm Cr

section
variable {Mo : World → Prop} {Wr : (Nat → Prop) → World → Nat → ByteArray → Prop} {Rd : (Nat → Prop) → World → Nat → Option ByteArray → Prop}
set_option maxRecDepth 100000 in
set_option maxHeartbeats 2000000 in
theorem xferKinds_any (L : LandedXf Mo Wr Rd) (a : Tran) (ha : a.Wf) (w : World) (hM : Mo w) :
    Calls Tryd.prog 4 #[tranV a] w fun e w' => e = .returned (.bool true) ∧ Below w.heap.size w w' := by
  have hal := Lib.hid (fun W (h : Hx Mo w W [(w.heap.size, a.cells)]) => h.ask L.later (xferAlive_any L W h.mo))
  have hm0 := (Hx.refl hM).new L.later a.cells 26
  have hd := Lib.hid (fun W (h : Hx Mo w W [(w.heap.size, a.cells)]) => h.drew L.later)
  have hMi := Lib.hid (show (Tryd.prog.info? 26).map (·.size) = some a.cells.length by rw [Tran.cells_length]; kernel_rfl)
  have hVa : tranV a = .agg a.cells.toArray := rfl
  have a13 : a.cells[13]? = some (.int .i64 a.Flags) := rfl
  by_cases h0 : a.Flags < 0
  · rw [hVa]
    clear ha L hM hVa
    generalize a.cells = M at *
    go_enter Tryd.func4, Tryd.ntmps4
    go_wp2_with fail
    refine (hal.out _ hm0).mono ?_
    rintro e w1 ⟨rfl, hm1⟩
    have z13 := (hm1.box (w.heap.size, M) (by simp)).spot 13 _ a13
    have zl := (hm1.box (w.heap.size, M) (by simp)).lt
    go_wp2
    go_ret
    exact ⟨rfl, hm1.bel⟩
  · have hf : 0 ≤ a.Flags := by omega
    have hck := Lib.hid (fun W (h : Hx Mo w W [(w.heap.size, a.cells)]) => h.ask L.later (L.check a W ha h.mo))
    have he := Lib.hid (fun W (h : Hx Mo w W [(w.heap.size, a.cells)]) => h.ask L.later (L.ends a W ha hf))
    have hp := Lib.hid (fun W (h : Hx Mo w W [(w.heap.size, a.cells)]) => h.ask L.later (L.pend a W ha hf))
    have hb := Lib.hid (fun W (h : Hx Mo w W [(w.heap.size, a.cells)]) => h.ask L.later (L.bal a W ha hf))
    have re := Lib.hid (fun W (h : Hx Mo w W [(w.heap.size, a.cells)]) => h.ask L.later (refends_any a W ha hf))
    have r2 := Lib.hid (fun W (h : Hx Mo w W [(w.heap.size, a.cells)]) => h.ask L.later (refhas_any a 2 W ha hf (by decide) (by decide)))
    have r16 := Lib.hid (fun W (h : Hx Mo w W [(w.heap.size, a.cells)]) => h.ask L.later (refhas_any a 16 W ha hf (by decide) (by decide)))
    have r32 := Lib.hid (fun W (h : Hx Mo w W [(w.heap.size, a.cells)]) => h.ask L.later (refhas_any a 32 W ha hf (by decide) (by decide)))
    have hk := Lib.hid (@chkT_kinds a)
    have hbb := Lib.hid (show balB a.Flags = (bitZ a.Flags 16 || bitZ a.Flags 32) from rfl)
    rw [hbb.out] at hb hk
    generalize bitZ a.Flags 2 = b2 at *
    generalize bitZ a.Flags 16 = b16 at *
    generalize bitZ a.Flags 32 = b32 at *
    generalize endsB a.Flags = bE at *
    generalize chkT a = ck at *
    clear hbb
    rw [hVa] at hck he hp hb re r2 r16 r32
    rw [hVa]
    clear ha L hM hVa
    generalize a.cells = M at *
    go_enter Tryd.func4, Tryd.ntmps4
    go_wp2_with fail
    refine (hal.out _ hm0).mono ?_
    rintro e w1 ⟨rfl, hm1⟩
    have z13 := (hm1.box (w.heap.size, M) (by simp)).spot 13 _ a13
    have zl := (hm1.box (w.heap.size, M) (by simp)).lt
    go_wp2_with fail
    refine wp_region_calm (fun w' => Hx Mo w w' [(w.heap.size, M)]) (by kernel_rfl) (by kernel_rfl) (hd.out _ hm1) ?_
    refine calm_load 26 _ (w.heap.size) 0 (M) _ (by rfl) rfl rfl (fun w' h => (h.box (w.heap.size, M) (by simp)).range) Tryd.underlying26 rfl (by first | exact hMi.out | exact hNi.out | exact hCi.out | exact hDi.out | kernel_rfl) ?_
    try simp only [Act.put, List.setIfInBounds_toArray, List.set_cons_zero, List.set_cons_succ]
    refine calm_call 12 #[.agg M.toArray] (by rfl) (fun w' => by go_simp) (fun w' h => (he.out w' h)) ?_
    try simp only [Act.put, List.setIfInBounds_toArray, List.set_cons_zero, List.set_cons_succ]
    refine calm_load 26 _ (w.heap.size) 0 (M) _ (by rfl) rfl rfl (fun w' h => (h.box (w.heap.size, M) (by simp)).range) Tryd.underlying26 rfl (by first | exact hMi.out | exact hNi.out | exact hCi.out | exact hDi.out | kernel_rfl) ?_
    try simp only [Act.put, List.setIfInBounds_toArray, List.set_cons_zero, List.set_cons_succ]
    refine calm_call 13 #[.agg M.toArray] (by rfl) (fun w' => by go_simp) (fun w' h => (hp.out w' h)) ?_
    try simp only [Act.put, List.setIfInBounds_toArray, List.set_cons_zero, List.set_cons_succ]
    refine calm_load 26 _ (w.heap.size) 0 (M) _ (by rfl) rfl rfl (fun w' h => (h.box (w.heap.size, M) (by simp)).range) Tryd.underlying26 rfl (by first | exact hMi.out | exact hNi.out | exact hCi.out | exact hDi.out | kernel_rfl) ?_
    try simp only [Act.put, List.setIfInBounds_toArray, List.set_cons_zero, List.set_cons_succ]
    refine calm_call 14 #[.agg M.toArray] (by rfl) (fun w' => by go_simp) (fun w' h => (hb.out w' h)) ?_
    try simp only [Act.put, List.setIfInBounds_toArray, List.set_cons_zero, List.set_cons_succ]
    refine calm_pure (v := ?cv73) (by rfl) (fun w' => ?ch73) ?cr73
    case ch73 => (go_simp; first | done | with_reducible rfl)
    try simp only [Act.put, List.setIfInBounds_toArray, List.set_cons_zero, List.set_cons_succ]
    refine calm_pure (v := ?cv76) (by rfl) (fun w' => ?ch76) ?cr76
    case ch76 => (go_simp; first | done | with_reducible rfl)
    try simp only [Act.put, List.setIfInBounds_toArray, List.set_cons_zero, List.set_cons_succ]
    refine calm_pure (v := ?cv79) (by rfl) (fun w' => ?ch79) ?cr79
    case ch79 => (go_simp; first | done | with_reducible rfl)
    try simp only [Act.put, List.setIfInBounds_toArray, List.set_cons_zero, List.set_cons_succ]
    intro w2 hmx
    clear hm1 hm0 hal he hp hb z13 zl
    cases bE <;> cases b2 <;> cases b16 <;> cases b32
    all_goals
      go_wp2_with (first | (refine wpList_load_midg rfl _ _ rfl w.heap.size 0 rfl M _ (hmx.box (w.heap.size, M) (by simp)).range Tryd.underlying26 rfl hMi.out ?_) | (go_at_call 15; with_reducible refine (re.out _ hmx).mono ?_; rintro e Wn ⟨rfl, hmn⟩; replace hmx := hmn; clear hmn) | (go_at_call 16; with_reducible refine (r2.out _ hmx).mono ?_; rintro e Wn ⟨rfl, hmn⟩; replace hmx := hmn; clear hmn) | (go_at_call 16; with_reducible refine (r16.out _ hmx).mono ?_; rintro e Wn ⟨rfl, hmn⟩; replace hmx := hmn; clear hmn) | (go_at_call 16; with_reducible refine (r32.out _ hmx).mono ?_; rintro e Wn ⟨rfl, hmn⟩; replace hmx := hmn; clear hmn))
    all_goals
      refine (hck.out _ hmx).mono ?_
      rintro e w9 ⟨rfl, hm9⟩
      by_cases hz : ck = 0
      · have q := hk.out hz
        first
          | (exfalso; simp at q; done)
          | (have hzb : (ck != 0) = false := by simp [hz]
             clear hz
             go_wp2
             go_ret
             exact ⟨rfl, hm9.bel⟩)
      · have hzb : (ck != 0) = true := by simpa using hz
        clear hz
        go_wp2
        go_ret
        exact ⟨rfl, hm9.bel⟩
end
end Go.Proofs.YtlalkfebedjlgaaDoor
