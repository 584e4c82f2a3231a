/- The landed transfers' Check. No condition but that the variable Most holds the greatest number. -/
import Derived.Test.YtlalkfebedjlgaaDoorZMb
namespace Go.Proofs.YtlalkfebedjlgaaDoor
open Go.RowKit Go.Sort Wm Cr
attribute [local go_sem high] run_eql_num run_neq_num run_eql_num0 run_neq_num0

theorem inZ_false (a n b : Int) : inZ a n b = false ↔ n < a ∨ b < n := by
  unfold inZ
  rw [← Bool.decide_and, decide_eq_false_iff_not]
  omega
theorem inZ_true (a n b : Int) : inZ a n b = true ↔ a ≤ n ∧ n ≤ b := by
  unfold inZ
  rw [← Bool.decide_and, decide_eq_true_iff]
def mostTime (a : Tran) : Int := if bitZ a.Flags 2 = true then 1073741824 else 0
theorem xfMostTime2 (a : Tran) (W : World) : Calls Tryd.prog 32 #[tranV a] W fun e W' => e = .returned (.int .i64 (mostTime a)) ∧ Below W.heap.size W W' := xfMostTime_any a W
theorem chkT_in (a : Tran) : chkT a = if inZ 0 a.Flags 255 = false then 3 else if decide (a.Id = 0) = true then 4 else if decide (a.Id = mostN) = true then 5 else if togB a.Flags = false then 6
    else if (a.Stamp != 0) = true then 7 else if (a.Born != 0) = true then 7 else if inZ 0 a.Timeout (mostTime a) = false then 17 else if endsB a.Flags = true then chkEnd a else chkMove a := by
  have hk : ∀ l, chkKind l a = if a.Ledger < l ∨ 4294967296 ≤ a.Ledger then 8 else if a.Code < l ∨ 65536 ≤ a.Code then 9 else 0 := by
    intro l
    unfold chkKind
    by_cases c : a.Ledger < l ∨ 4294967296 ≤ a.Ledger
    · rw [if_pos c, if_pos ((inZ_false _ _ _).2 (by omega))]
    rw [if_neg c, if_neg (fun e => c (by have := (inZ_false _ _ _).1 e; omega))]
    by_cases c : a.Code < l ∨ 65536 ≤ a.Code
    · rw [if_pos c, if_pos ((inZ_false _ _ _).2 (by omega))]
    rw [if_neg c, if_neg (fun e => c (by have := (inZ_false _ _ _).1 e; omega))]
  unfold chkT
  by_cases c1 : a.Flags < 0 ∨ 255 < a.Flags
  · rw [if_pos c1, if_pos (c := inZ 0 a.Flags 255 = false) ((inZ_false _ _ _).2 (by omega))]
  rw [if_neg c1, if_neg (c := inZ 0 a.Flags 255 = false) (fun e => c1 (by have := (inZ_false _ _ _).1 e; omega))]
  by_cases c2 : a.Id = 0
  · rw [if_pos c2, if_pos (decide_eq_true c2)]
  rw [if_neg c2, if_neg (c := decide (a.Id = 0) = true) (by simpa using c2)]
  by_cases c3 : a.Id = mostN
  · rw [if_pos c3, if_pos (decide_eq_true c3)]
  rw [if_neg c3, if_neg (c := decide (a.Id = mostN) = true) (by simpa using c3)]
  by_cases c4 : togB a.Flags = false
  · rw [if_pos c4, if_pos c4]
  rw [if_neg c4, if_neg c4]
  by_cases c5 : a.Stamp ≠ 0
  · rw [if_pos (Or.inl c5), if_pos (by simpa using c5)]
  rw [if_neg (c := (a.Stamp != 0) = true) (by simpa using c5)]
  by_cases c6 : a.Born ≠ 0
  · rw [if_pos (Or.inr c6), if_pos (by simpa using c6)]
  rw [if_neg (fun e => e.elim c5 c6), if_neg (c := (a.Born != 0) = true) (by simpa using c6)]
  have ht : (a.Timeout < 0 ∨ 1073741824 < a.Timeout ∨ (0 < a.Timeout ∧ bitZ a.Flags 2 = false)) ↔ inZ 0 a.Timeout (mostTime a) = false := by
    rw [inZ_false]
    unfold mostTime
    by_cases h : bitZ a.Flags 2 = true
    · rw [if_pos h, h]; simp
    · rw [if_neg h]
      have h2 : bitZ a.Flags 2 = false := by simpa using h
      rw [h2]
      simp only [and_true]
      omega
  by_cases c7 : inZ 0 a.Timeout (mostTime a) = false
  · rw [if_pos (ht.2 c7), if_pos c7]
  rw [if_neg (fun e => c7 (ht.1 e)), if_neg c7]
  by_cases c8 : endsB a.Flags = true
  · rw [if_pos c8, if_pos c8]
    unfold chkEnd
    rw [hk]
    simp only [decide_eq_true_iff]
  rw [if_neg c8, if_neg c8]
  unfold chkMove
  rw [hk]
  simp only [decide_eq_true_iff, decide_eq_false_iff_not]
  by_cases d1 : a.Debit = 0
  · rw [if_pos d1, if_pos d1]
  rw [if_neg d1, if_neg d1]
  by_cases d2 : a.Credit = 0
  · rw [if_pos d2, if_pos d2]
  rw [if_neg d2, if_neg d2]
  by_cases d3 : a.Debit = a.Credit
  · rw [if_pos d3, if_pos d3]
  rw [if_neg d3, if_neg d3]
  by_cases d4 : a.Pending = 0
  · simp only [d4, ne_eq, not_true_eq_false, if_false]
    by_cases d5 : a.Amount = 0
    · have hb : (a.Amount = 0 ∧ bitZ a.Flags 16 = false ∧ bitZ a.Flags 32 = false) ↔ balB a.Flags = false := by
        unfold balB
        rw [Bool.or_eq_false_iff]
        exact ⟨fun e => e.2, fun e => ⟨d5, e⟩⟩
      by_cases d6 : balB a.Flags = false
      · rw [if_pos (hb.2 d6), if_pos d5, if_pos d6]
      · rw [if_neg (fun e => d6 (hb.1 e)), if_pos d5, if_neg d6]
    · simp only [d5, false_and, if_false]
  · simp only [d4, ne_eq, not_false_eq_true, if_true]
set_option maxRecDepth 100000 in
set_option maxHeartbeats 4000000 in
theorem xfCheck_flags (a : Tran) (W : World) (h : inZ 0 a.Flags 255 = false) : Calls Tryd.prog 10 #[tranV a] W fun e W' => e = .returned (.int .i64 (chkT a)) ∧ Below W.heap.size W W' := by
  have hx := chkT_in a
  rw [if_pos h] at hx
  rw [hx]
  clear hx
  have hm0 := tranBox a W
  have hMi := Lib.hid (show (Tryd.prog.info? 26).map (·.size) = some a.cells.length by rw [Tran.cells_length]; kernel_rfl)
  have hg := Lib.hid (fun W' (h : Hx (fun _ => True) W W' [(W.heap.size, a.cells)]) => (h.box (W.heap.size, a.cells) (by simp)).tran (a := a) trivial)
  have hV : tranV a = .agg a.cells.toArray := rfl
  have k1 := Lib.hid (fun W' (h : Hx (fun _ => True) W W' [(W.heap.size, a.cells)]) => h.ask noLater (xfWithinB 0 a.Flags 255 W'))
  have kz := Lib.hid (fun W' (h : Hx (fun _ => True) W W' [(W.heap.size, a.cells)]) => h.ask noLater (zero_any a.Id W'))
  rw [h] at k1
  rw [hV]
  generalize a.cells = M at *
  clear kz h
  obtain ⟨z0, z1, z2, z3, z4, z5, z6, z7, z8, z9, z10, z11, z12, z13, z14, z15, z16, -⟩ := hg.out _ hm0
  go_enter Tryd.func10, Tryd.ntmps10
  go_wp2_with (first | (refine wpList_load_midg rfl 26 _ rfl W.heap.size 0 rfl M _ (hm0.row (by simp)) Tryd.underlying26 rfl hMi.out ?_) | (go_at_call 29; with_reducible refine (k1.out _ hm0).mono ?_; rintro e Wn ⟨rfl, hbn⟩; replace hm0 := hbn; clear hbn; clear z0 z1 z2 z3 z4 z5 z6 z7 z8 z9 z10 z11 z12 z13 z14 z15 z16; obtain ⟨z0, z1, z2, z3, z4, z5, z6, z7, z8, z9, z10, z11, z12, z13, z14, z15, z16, -⟩ := hg.out _ hm0))
  go_ret
  exact ⟨rfl, hm0.bel⟩
set_option maxRecDepth 100000 in
set_option maxHeartbeats 4000000 in
theorem xfCheck_rest (a : Tran) (W : World) (hMo : Most W) (h : inZ 0 a.Flags 255 = true) : Calls Tryd.prog 10 #[tranV a] W fun e W' => e = .returned (.int .i64 (chkT a)) ∧ Below W.heap.size W W' := by
  have hx := chkT_in a
  rw [if_neg (by rw [h]; decide)] at hx
  have hr := (inZ_true _ _ _).1 h
  have hm0 := tranBox a W
  have hMi := Lib.hid (show (Tryd.prog.info? 26).map (·.size) = some a.cells.length by rw [Tran.cells_length]; kernel_rfl)
  have hg := Lib.hid (fun W' (h : Hx (fun _ => True) W W' [(W.heap.size, a.cells)]) => (h.box (W.heap.size, a.cells) (by simp)).tran (a := a) trivial)
  have hV : tranV a = .agg a.cells.toArray := rfl
  have k1 := Lib.hid (fun W' (h : Hx (fun _ => True) W W' [(W.heap.size, a.cells)]) => h.ask noLater (xfWithinB 0 a.Flags 255 W'))
  have kz := Lib.hid (fun W' (h : Hx (fun _ => True) W W' [(W.heap.size, a.cells)]) => h.ask noLater (zero_any a.Id W'))
  have kt := Lib.hid (fun W' (h : Hx (fun _ => True) W W' [(W.heap.size, a.cells)]) => h.ask noLater (xfTog_any a hr.1 hr.2 W'))
  have km := Lib.hid (fun W' (h : Hx (fun _ => True) W W' [(W.heap.size, a.cells)]) => h.ask noLater (xfMostTime2 a W'))
  have ke := Lib.hid (fun W' (h : Hx (fun _ => True) W W' [(W.heap.size, a.cells)]) => h.ask noLater (xfEnds_any a W'))
  have kE := Lib.hid (fun W' (h : Hx (fun _ => True) W W' [(W.heap.size, a.cells)]) => h.ask noLater (xfEnd_any a W'))
  have kM := Lib.hid (fun W' (h : Hx (fun _ => True) W W' [(W.heap.size, a.cells)]) => h.ask noLater (xfMove_any a W'))
  have kw := Lib.hid (fun W' (h : Hx (fun _ => True) W W' [(W.heap.size, a.cells)]) => h.ask noLater (xfWithinB 0 a.Timeout (mostTime a) W'))
  have hM := Lib.hid (fun W' (h : Hx (fun _ => True) W W' [(W.heap.size, a.cells)]) => hMo.later h.bel)
  rw [h] at k1
  unfold numV at kz
  rw [hV] at kt km ke kE kM ⊢
  clear hr
  generalize togB a.Flags = bT at *
  generalize endsB a.Flags = bE at *
  generalize inZ 0 a.Timeout (mostTime a) = bW at *
  generalize mostTime a = mt at *
  generalize chkEnd a = xE at *
  generalize chkMove a = xM at *
  generalize h5 : (a.Stamp != 0) = b5 at *
  generalize h6 : (a.Born != 0) = b6 at *
  generalize h3 : decide (a.Id = mostN) = b3 at *
  generalize decide (a.Id = 0) = b2 at *
  generalize chkT a = x at *
  subst hx
  have hc10 := Lib.hid (fun W' (h : Hx (fun _ => True) W W' [(W.heap.size, a.cells)]) => (h.box (W.heap.size, a.cells) (by simp)).spot 10 _ rfl)
  generalize a.cells = M at *
  clear hMo h
  obtain ⟨z0, z1, z2, z3, z4, z5, z6, z7, z8, z9, z10, z11, z12, z13, z14, z15, z16, -⟩ := hg.out _ hm0
  obtain ⟨m0, m1, ml⟩ := hM.out _ hm0
  cases b2
  case true =>
    go_enter Tryd.func10, Tryd.ntmps10
    go_wp2_with (first | (refine wpList_load_midg rfl 26 _ rfl W.heap.size 0 rfl M _ (hm0.row (by simp)) Tryd.underlying26 rfl hMi.out ?_) | (go_at_call 29; with_reducible refine (k1.out _ hm0).mono ?_; rintro e Wn ⟨rfl, hbn⟩; replace hm0 := hbn; clear hbn; clear z0 z1 z2 z3 z4 z5 z6 z7 z8 z9 z10 z11 z12 z13 z14 z15 z16 m0 m1 ml; obtain ⟨z0, z1, z2, z3, z4, z5, z6, z7, z8, z9, z10, z11, z12, z13, z14, z15, z16, -⟩ := hg.out _ hm0; obtain ⟨m0, m1, ml⟩ := hM.out _ hm0) | (go_at_call 30; with_reducible refine (kz.out _ hm0).mono ?_; rintro e Wn ⟨rfl, hbn⟩; replace hm0 := hbn; clear hbn; clear z0 z1 z2 z3 z4 z5 z6 z7 z8 z9 z10 z11 z12 z13 z14 z15 z16 m0 m1 ml; obtain ⟨z0, z1, z2, z3, z4, z5, z6, z7, z8, z9, z10, z11, z12, z13, z14, z15, z16, -⟩ := hg.out _ hm0; obtain ⟨m0, m1, ml⟩ := hM.out _ hm0))
    go_ret
    exact ⟨rfl, hm0.bel⟩
  cases b3
  case true =>
    go_enter Tryd.func10, Tryd.ntmps10
    go_wp2_with (first | (refine wpList_load_midg rfl 26 _ rfl W.heap.size 0 rfl M _ (hm0.row (by simp)) Tryd.underlying26 rfl hMi.out ?_) | (go_at_call 29; with_reducible refine (k1.out _ hm0).mono ?_; rintro e Wn ⟨rfl, hbn⟩; replace hm0 := hbn; clear hbn; clear z0 z1 z2 z3 z4 z5 z6 z7 z8 z9 z10 z11 z12 z13 z14 z15 z16 m0 m1 ml; obtain ⟨z0, z1, z2, z3, z4, z5, z6, z7, z8, z9, z10, z11, z12, z13, z14, z15, z16, -⟩ := hg.out _ hm0; obtain ⟨m0, m1, ml⟩ := hM.out _ hm0) | (go_at_call 30; with_reducible refine (kz.out _ hm0).mono ?_; rintro e Wn ⟨rfl, hbn⟩; replace hm0 := hbn; clear hbn; clear z0 z1 z2 z3 z4 z5 z6 z7 z8 z9 z10 z11 z12 z13 z14 z15 z16 m0 m1 ml; obtain ⟨z0, z1, z2, z3, z4, z5, z6, z7, z8, z9, z10, z11, z12, z13, z14, z15, z16, -⟩ := hg.out _ hm0; obtain ⟨m0, m1, ml⟩ := hM.out _ hm0))
    go_ret
    exact ⟨rfl, hm0.bel⟩
  cases bT
  case false =>
    go_enter Tryd.func10, Tryd.ntmps10
    go_wp2_with (first | (refine wpList_load_midg rfl 26 _ rfl W.heap.size 0 rfl M _ (hm0.row (by simp)) Tryd.underlying26 rfl hMi.out ?_) | (go_at_call 29; with_reducible refine (k1.out _ hm0).mono ?_; rintro e Wn ⟨rfl, hbn⟩; replace hm0 := hbn; clear hbn; clear z0 z1 z2 z3 z4 z5 z6 z7 z8 z9 z10 z11 z12 z13 z14 z15 z16 m0 m1 ml; obtain ⟨z0, z1, z2, z3, z4, z5, z6, z7, z8, z9, z10, z11, z12, z13, z14, z15, z16, -⟩ := hg.out _ hm0; obtain ⟨m0, m1, ml⟩ := hM.out _ hm0) | (go_at_call 30; with_reducible refine (kz.out _ hm0).mono ?_; rintro e Wn ⟨rfl, hbn⟩; replace hm0 := hbn; clear hbn; clear z0 z1 z2 z3 z4 z5 z6 z7 z8 z9 z10 z11 z12 z13 z14 z15 z16 m0 m1 ml; obtain ⟨z0, z1, z2, z3, z4, z5, z6, z7, z8, z9, z10, z11, z12, z13, z14, z15, z16, -⟩ := hg.out _ hm0; obtain ⟨m0, m1, ml⟩ := hM.out _ hm0) | (go_at_call 31; with_reducible refine (kt.out _ hm0).mono ?_; rintro e Wn ⟨rfl, hbn⟩; replace hm0 := hbn; clear hbn; clear z0 z1 z2 z3 z4 z5 z6 z7 z8 z9 z10 z11 z12 z13 z14 z15 z16 m0 m1 ml; obtain ⟨z0, z1, z2, z3, z4, z5, z6, z7, z8, z9, z10, z11, z12, z13, z14, z15, z16, -⟩ := hg.out _ hm0; obtain ⟨m0, m1, ml⟩ := hM.out _ hm0))
    go_ret
    exact ⟨rfl, hm0.bel⟩
  cases b5
  case true =>
    go_enter Tryd.func10, Tryd.ntmps10
    go_wp2_with (first | (refine wpList_load_midg rfl 26 _ rfl W.heap.size 0 rfl M _ (hm0.row (by simp)) Tryd.underlying26 rfl hMi.out ?_) | (go_at_call 29; with_reducible refine (k1.out _ hm0).mono ?_; rintro e Wn ⟨rfl, hbn⟩; replace hm0 := hbn; clear hbn; clear z0 z1 z2 z3 z4 z5 z6 z7 z8 z9 z10 z11 z12 z13 z14 z15 z16 m0 m1 ml; obtain ⟨z0, z1, z2, z3, z4, z5, z6, z7, z8, z9, z10, z11, z12, z13, z14, z15, z16, -⟩ := hg.out _ hm0; obtain ⟨m0, m1, ml⟩ := hM.out _ hm0) | (go_at_call 30; with_reducible refine (kz.out _ hm0).mono ?_; rintro e Wn ⟨rfl, hbn⟩; replace hm0 := hbn; clear hbn; clear z0 z1 z2 z3 z4 z5 z6 z7 z8 z9 z10 z11 z12 z13 z14 z15 z16 m0 m1 ml; obtain ⟨z0, z1, z2, z3, z4, z5, z6, z7, z8, z9, z10, z11, z12, z13, z14, z15, z16, -⟩ := hg.out _ hm0; obtain ⟨m0, m1, ml⟩ := hM.out _ hm0) | (go_at_call 31; with_reducible refine (kt.out _ hm0).mono ?_; rintro e Wn ⟨rfl, hbn⟩; replace hm0 := hbn; clear hbn; clear z0 z1 z2 z3 z4 z5 z6 z7 z8 z9 z10 z11 z12 z13 z14 z15 z16 m0 m1 ml; obtain ⟨z0, z1, z2, z3, z4, z5, z6, z7, z8, z9, z10, z11, z12, z13, z14, z15, z16, -⟩ := hg.out _ hm0; obtain ⟨m0, m1, ml⟩ := hM.out _ hm0))
    go_ret
    exact ⟨rfl, hm0.bel⟩
  cases b6
  case true =>
    go_enter Tryd.func10, Tryd.ntmps10
    go_wp2_with (first | (refine wpList_load_midg rfl 26 _ rfl W.heap.size 0 rfl M _ (hm0.row (by simp)) Tryd.underlying26 rfl hMi.out ?_) | (go_at_call 29; with_reducible refine (k1.out _ hm0).mono ?_; rintro e Wn ⟨rfl, hbn⟩; replace hm0 := hbn; clear hbn; clear z0 z1 z2 z3 z4 z5 z6 z7 z8 z9 z10 z11 z12 z13 z14 z15 z16 m0 m1 ml; obtain ⟨z0, z1, z2, z3, z4, z5, z6, z7, z8, z9, z10, z11, z12, z13, z14, z15, z16, -⟩ := hg.out _ hm0; obtain ⟨m0, m1, ml⟩ := hM.out _ hm0) | (go_at_call 30; with_reducible refine (kz.out _ hm0).mono ?_; rintro e Wn ⟨rfl, hbn⟩; replace hm0 := hbn; clear hbn; clear z0 z1 z2 z3 z4 z5 z6 z7 z8 z9 z10 z11 z12 z13 z14 z15 z16 m0 m1 ml; obtain ⟨z0, z1, z2, z3, z4, z5, z6, z7, z8, z9, z10, z11, z12, z13, z14, z15, z16, -⟩ := hg.out _ hm0; obtain ⟨m0, m1, ml⟩ := hM.out _ hm0) | (go_at_call 31; with_reducible refine (kt.out _ hm0).mono ?_; rintro e Wn ⟨rfl, hbn⟩; replace hm0 := hbn; clear hbn; clear z0 z1 z2 z3 z4 z5 z6 z7 z8 z9 z10 z11 z12 z13 z14 z15 z16 m0 m1 ml; obtain ⟨z0, z1, z2, z3, z4, z5, z6, z7, z8, z9, z10, z11, z12, z13, z14, z15, z16, -⟩ := hg.out _ hm0; obtain ⟨m0, m1, ml⟩ := hM.out _ hm0))
    go_ret
    exact ⟨rfl, hm0.bel⟩
  go_enter Tryd.func10, Tryd.ntmps10
  go_wp2_with (first | (refine wpList_load_midg rfl 26 _ rfl W.heap.size 0 rfl M _ (hm0.row (by simp)) Tryd.underlying26 rfl hMi.out ?_) | (go_at_call 29; with_reducible refine (k1.out _ hm0).mono ?_; rintro e Wn ⟨rfl, hbn⟩; replace hm0 := hbn; clear hbn; clear z0 z1 z2 z3 z4 z5 z6 z7 z8 z9 z10 z11 z12 z13 z14 z15 z16 m0 m1 ml; obtain ⟨z0, z1, z2, z3, z4, z5, z6, z7, z8, z9, z10, z11, z12, z13, z14, z15, z16, -⟩ := hg.out _ hm0; obtain ⟨m0, m1, ml⟩ := hM.out _ hm0) | (go_at_call 30; with_reducible refine (kz.out _ hm0).mono ?_; rintro e Wn ⟨rfl, hbn⟩; replace hm0 := hbn; clear hbn; clear z0 z1 z2 z3 z4 z5 z6 z7 z8 z9 z10 z11 z12 z13 z14 z15 z16 m0 m1 ml; obtain ⟨z0, z1, z2, z3, z4, z5, z6, z7, z8, z9, z10, z11, z12, z13, z14, z15, z16, -⟩ := hg.out _ hm0; obtain ⟨m0, m1, ml⟩ := hM.out _ hm0) | (go_at_call 31; with_reducible refine (kt.out _ hm0).mono ?_; rintro e Wn ⟨rfl, hbn⟩; replace hm0 := hbn; clear hbn; clear z0 z1 z2 z3 z4 z5 z6 z7 z8 z9 z10 z11 z12 z13 z14 z15 z16 m0 m1 ml; obtain ⟨z0, z1, z2, z3, z4, z5, z6, z7, z8, z9, z10, z11, z12, z13, z14, z15, z16, -⟩ := hg.out _ hm0; obtain ⟨m0, m1, ml⟩ := hM.out _ hm0))
  refine wp_region_calm (fun w' => Hx (fun _ => True) W w' [(W.heap.size, M)]) (by kernel_rfl) (by kernel_rfl) (hm0.drew noLater) ?_
  refine calm_pure (v := ?cv183) (by rfl) (fun w' => ?ch183) ?cr183
  case ch183 => (go_simp; first | done | with_reducible rfl)
  try simp only [Act.put, List.setIfInBounds_toArray, List.set_cons_zero, List.set_cons_succ]
  refine calm_read (v := .int .i64 a.Timeout) (by rfl) (fun w' h => ?_) ?_
  · have q := hc10.out _ h
    have ql := (h.box (W.heap.size, M) (by simp)).lt
    go_simp
  try simp only [Act.put, List.setIfInBounds_toArray, List.set_cons_zero, List.set_cons_succ]
  refine calm_load 26 _ (W.heap.size) 0 (M) _ (by rfl) rfl rfl (fun w' h => (h.box (W.heap.size, M) (by simp)).range) Tryd.underlying26 rfl (by first | exact hMi.out | exact hNi.out | exact hCi.out | exact hDi.out | kernel_rfl) ?_
  try simp only [Act.put, List.setIfInBounds_toArray, List.set_cons_zero, List.set_cons_succ]
  refine calm_call 32 #[.agg M.toArray] (by rfl) (fun w' => by go_simp) (fun w' h => (km.out w' h)) ?_
  try simp only [Act.put, List.setIfInBounds_toArray, List.set_cons_zero, List.set_cons_succ]
  refine calm_call 29 #[.int .i64 0, .int .i64 a.Timeout, .int .i64 mt] (by rfl) (fun w' => by go_simp) (fun w' h => (kw.out w' h)) ?_
  try simp only [Act.put, List.setIfInBounds_toArray, List.set_cons_zero, List.set_cons_succ]
  refine calm_pure (v := ?cv197) (by rfl) (fun w' => ?ch197) ?cr197
  case ch197 => (go_simp; first | done | with_reducible rfl)
  try simp only [Act.put, List.setIfInBounds_toArray, List.set_cons_zero, List.set_cons_succ]
  refine calm_pure (v := ?cv200) (by rfl) (fun w' => ?ch200) ?cr200
  case ch200 => (go_simp; first | done | with_reducible rfl)
  try simp only [Act.put, List.setIfInBounds_toArray, List.set_cons_zero, List.set_cons_succ]
  intro w3 hm3
  clear hm0
  have hm0 := hm3
  clear hm3
  cases bW
  case false =>
    go_wp2
    go_ret
    exact ⟨rfl, hm0.bel⟩
  cases bE
  all_goals
    go_wp2_with (first | (refine wpList_load_midg rfl 26 _ rfl W.heap.size 0 rfl M _ (hm0.row (by simp)) Tryd.underlying26 rfl hMi.out ?_) | (go_at_call 12; with_reducible refine (ke.out _ hm0).mono ?_; rintro e Wn ⟨rfl, hbn⟩; replace hm0 := hbn; clear hbn) | (go_at_call 33; with_reducible refine (kE.out _ hm0).mono ?_; rintro e Wn ⟨rfl, hbn⟩; replace hm0 := hbn; clear hbn) | (go_at_call 34; with_reducible refine (kM.out _ hm0).mono ?_; rintro e Wn ⟨rfl, hbn⟩; replace hm0 := hbn; clear hbn))
    go_ret
    exact ⟨rfl, hm0.bel⟩
theorem xfCheck_any (a : Tran) (W : World) (hM : Most W) : Calls Tryd.prog 10 #[tranV a] W fun e W' => e = .returned (.int .i64 (chkT a)) ∧ Below W.heap.size W W' := by
  by_cases h : inZ 0 a.Flags 255 = true
  · exact xfCheck_rest a W hM h
  · exact xfCheck_flags a W (by simpa using h)
end Go.Proofs.YtlalkfebedjlgaaDoor
