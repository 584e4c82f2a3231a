/- Stage 10: the document's Check of a transfer, ahead of its kind. No condition. -/
import Derived.Test.YtlalkfebedjlgaaDoorZXc
namespace Go.Proofs.YtlalkfebedjlgaaDoor
open Go.RowKit Go.Sort Wm Cr
attribute [local go_sem high] run_eql_num run_neq_num run_eql_num0 run_neq_num0

set_option maxRecDepth 100000 in
set_option maxHeartbeats 4000000 in
theorem refcheckT_early (a : Tran) (ha : a.Wf) (h0 : 0 ≤ a.Flags) (hn : a.Flags ≤ 255 → ¬ a.Id = 0 → ¬ a.Id = mostN → togB a.Flags = true → a.Stamp = 0 → a.Born = 0 → 0 ≤ a.Timeout → a.Timeout ≤ 1073741824 → 0 < a.Timeout ∧ bitZ a.Flags 2 = false) (w : World) : Calls Tryd.prog 11 #[tranV a] w fun e w' => e = .returned (.int .i64 (chkT a)) ∧ Below w.heap.size w w' := by
  have n1 : decide (a.Flags < 0) = false := decide_eq_false (by omega)
  replace h0 := Lib.hid h0
  replace hn := Lib.hid hn
  have kS := Lib.hid (fun W (h : Hx (fun _ => True) w W [(w.heap.size + 1, [.int .u64 0, .int .u64 0]), (w.heap.size, a.cells)]) => h.ask (fun _ _ _ _ => trivial) (refshow_any a.Id ha.Id W))
  have kT := Lib.hid (fun W (h : Hx (fun _ => True) w W [(w.heap.size + 1, [.int .u64 0, .int .u64 0]), (w.heap.size, a.cells)]) => h.ask (fun _ _ _ _ => trivial) (reftog_any a W ha h0.out))
  have kE := Lib.hid (fun W (h : Hx (fun _ => True) w W [(w.heap.size + 1, [.int .u64 0, .int .u64 0]), (w.heap.size, a.cells)]) => h.ask (fun _ _ _ _ => trivial) (refends_any a W ha h0.out))
  have k2 := Lib.hid (fun W (h : Hx (fun _ => True) w W [(w.heap.size + 1, [.int .u64 0, .int .u64 0]), (w.heap.size, a.cells)]) => h.ask (fun _ _ _ _ => trivial) (refhas_any a 2 W ha h0.out (by decide) (by decide)))
  have k16 := Lib.hid (fun W (h : Hx (fun _ => True) w W [(w.heap.size + 1, [.int .u64 0, .int .u64 0]), (w.heap.size, a.cells)]) => h.ask (fun _ _ _ _ => trivial) (refhas_any a 16 W ha h0.out (by decide) (by decide)))
  have k32 := Lib.hid (fun W (h : Hx (fun _ => True) w W [(w.heap.size + 1, [.int .u64 0, .int .u64 0]), (w.heap.size, a.cells)]) => h.ask (fun _ _ _ _ => trivial) (refhas_any a 32 W ha h0.out (by decide) (by decide)))
  have hbx := ((Hx.refl (Mo := fun _ => True) (w := w) trivial).new (fun _ _ _ _ => trivial) a.cells 26).new (fun _ _ _ _ => trivial) [.int .u64 0, .int .u64 0] 24
  rw [World.size_alloc] at hbx
  have hg := Lib.hid (fun W (h : Hx (fun _ => True) w W [(w.heap.size + 1, [.int .u64 0, .int .u64 0]), (w.heap.size, a.cells)]) => (show W.cell? ⟨w.heap.size, 0, none⟩ = some (.int .u64 ((hiN a.Id : Nat) : Int)) ∧ W.cell? ⟨w.heap.size, 1, none⟩ = some (.int .u64 ((loN a.Id : Nat) : Int)) ∧ W.cell? ⟨w.heap.size, 2, none⟩ = some (.int .u64 ((hiN a.Debit : Nat) : Int)) ∧ W.cell? ⟨w.heap.size, 3, none⟩ = some (.int .u64 ((loN a.Debit : Nat) : Int)) ∧ W.cell? ⟨w.heap.size, 4, none⟩ = some (.int .u64 ((hiN a.Credit : Nat) : Int)) ∧ W.cell? ⟨w.heap.size, 5, none⟩ = some (.int .u64 ((loN a.Credit : Nat) : Int)) ∧ W.cell? ⟨w.heap.size, 6, none⟩ = some (.int .u64 ((hiN a.Amount : Nat) : Int)) ∧ W.cell? ⟨w.heap.size, 7, none⟩ = some (.int .u64 ((loN a.Amount : Nat) : Int)) ∧ W.cell? ⟨w.heap.size, 8, none⟩ = some (.int .u64 ((hiN a.Pending : Nat) : Int)) ∧ W.cell? ⟨w.heap.size, 9, none⟩ = some (.int .u64 ((loN a.Pending : Nat) : Int)) ∧ W.cell? ⟨w.heap.size, 10, none⟩ = some (.int .i64 a.Timeout) ∧ W.cell? ⟨w.heap.size, 11, none⟩ = some (.int .i64 a.Ledger) ∧ W.cell? ⟨w.heap.size, 12, none⟩ = some (.int .i64 a.Code) ∧ W.cell? ⟨w.heap.size, 13, none⟩ = some (.int .i64 a.Flags) ∧ W.cell? ⟨w.heap.size, 14, none⟩ = some (.int .i64 a.Stamp) ∧ W.cell? ⟨w.heap.size, 15, none⟩ = some (.int .i64 a.Born) ∧ w.heap.size < W.heap.size ∧ W.cell? ⟨w.heap.size + 1, 0, none⟩ = some (.int .u64 0) ∧ W.cell? ⟨w.heap.size + 1, 1, none⟩ = some (.int .u64 0) ∧ w.heap.size + 1 < W.heap.size from
    (h.box (w.heap.size, a.cells) (by simp)).tran ⟨(h.box (w.heap.size + 1, [.int .u64 0, .int .u64 0]) (by simp)).spot 0 _ rfl, (h.box (w.heap.size + 1, [.int .u64 0, .int .u64 0]) (by simp)).spot 1 _ rfl, (h.box (w.heap.size + 1, [.int .u64 0, .int .u64 0]) (by simp)).lt⟩))
  have hrg := Lib.hid (fun W (h : Hx (fun _ => True) w W [(w.heap.size + 1, [.int .u64 0, .int .u64 0]), (w.heap.size, a.cells)]) => show W.rangeAt w.heap.size 0 a.cells from fun j v hj => by rw [Nat.zero_add]; exact (h.box (w.heap.size, a.cells) (by simp)).spot j v hj)
  have hMi := Lib.hid (show (Tryd.prog.info? 26).map (·.size) = some a.cells.length by rw [Tran.cells_length]; kernel_rfl)
  have hV : tranV a = .agg a.cells.toArray := rfl
  have hsm := show_is_most ha.Id
  rw [hV] at kT kE k2 k16 k32
  rw [hV]
  generalize a.cells = M at *
  obtain ⟨i0, i1, d0, d1, c0, c1, m0, m1, p0, p1, ti, le, co, fl, st, bo, lt, z0, z1, zt⟩ := hg.out _ hbx
  unfold numV at kS
  generalize eT : togB a.Flags = bT at *
  generalize eE : endsB a.Flags = bE at *
  generalize e2 : bitZ a.Flags 2 = b2 at *
  generalize e16 : bitZ a.Flags 16 = b16 at *
  generalize e32 : bitZ a.Flags 32 = b32 at *
  replace eT := Lib.hid eT
  replace eE := Lib.hid eE
  replace e2 := Lib.hid e2
  replace e16 := Lib.hid e16
  replace e32 := Lib.hid e32
  clear ha
  by_cases g1 : 255 < a.Flags
  · have g1b : decide (255 < a.Flags) = true := decide_eq_true g1
    replace g1 := Lib.hid g1
    go_enter Tryd.func11, Tryd.ntmps11
    go_wp2_with (first | (refine wpList_load_mid rfl _ _ rfl w.heap.size 0 rfl M _ (hrg.out _ hbx) Tryd.underlying26 rfl hMi.out ?_) | (go_at_call 35; with_reducible refine (kS.out _ hbx).mono ?_; rintro e Wn ⟨rfl, hbn⟩; replace hbx := hbn; clear hbn; clear i0 i1 d0 d1 c0 c1 m0 m1 p0 p1 ti le co fl st bo lt z0 z1 zt; obtain ⟨i0, i1, d0, d1, c0, c1, m0, m1, p0, p1, ti, le, co, fl, st, bo, lt, z0, z1, zt⟩ := hg.out _ hbx) | (go_at_call 36; with_reducible refine (kT.out _ hbx).mono ?_; rintro e Wn ⟨rfl, hbn⟩; replace hbx := hbn; clear hbn; clear i0 i1 d0 d1 c0 c1 m0 m1 p0 p1 ti le co fl st bo lt z0 z1 zt; obtain ⟨i0, i1, d0, d1, c0, c1, m0, m1, p0, p1, ti, le, co, fl, st, bo, lt, z0, z1, zt⟩ := hg.out _ hbx) | (go_at_call 15; with_reducible refine (kE.out _ hbx).mono ?_; rintro e Wn ⟨rfl, hbn⟩; replace hbx := hbn; clear hbn; clear i0 i1 d0 d1 c0 c1 m0 m1 p0 p1 ti le co fl st bo lt z0 z1 zt; obtain ⟨i0, i1, d0, d1, c0, c1, m0, m1, p0, p1, ti, le, co, fl, st, bo, lt, z0, z1, zt⟩ := hg.out _ hbx) | (go_at_call 16; with_reducible refine (k2.out _ hbx).mono ?_; rintro e Wn ⟨rfl, hbn⟩; replace hbx := hbn; clear hbn; clear i0 i1 d0 d1 c0 c1 m0 m1 p0 p1 ti le co fl st bo lt z0 z1 zt; obtain ⟨i0, i1, d0, d1, c0, c1, m0, m1, p0, p1, ti, le, co, fl, st, bo, lt, z0, z1, zt⟩ := hg.out _ hbx) | (go_at_call 16; with_reducible refine (k16.out _ hbx).mono ?_; rintro e Wn ⟨rfl, hbn⟩; replace hbx := hbn; clear hbn; clear i0 i1 d0 d1 c0 c1 m0 m1 p0 p1 ti le co fl st bo lt z0 z1 zt; obtain ⟨i0, i1, d0, d1, c0, c1, m0, m1, p0, p1, ti, le, co, fl, st, bo, lt, z0, z1, zt⟩ := hg.out _ hbx) | (go_at_call 16; with_reducible refine (k32.out _ hbx).mono ?_; rintro e Wn ⟨rfl, hbn⟩; replace hbx := hbn; clear hbn; clear i0 i1 d0 d1 c0 c1 m0 m1 p0 p1 ti le co fl st bo lt z0 z1 zt; obtain ⟨i0, i1, d0, d1, c0, c1, m0, m1, p0, p1, ti, le, co, fl, st, bo, lt, z0, z1, zt⟩ := hg.out _ hbx))
    all_goals
      go_ret
      refine ⟨congrArg (fun v : Int => Ending.returned (.int .i64 v)) ?_, hbx.bel⟩
      clear hbx hg hrg kS kT kE k2 k16 k32 hV hMi i0 i1 d0 d1 c0 c1 m0 m1 p0 p1 ti le co fl st bo lt z0 z1 zt
      unfold chkT
      rw [eT.out, eE.out, e2.out, e16.out, e32.out]
      clear eT eE e2 e16 e32
      try replace h0 := h0.out
      try replace g1 := g1.out
      repeat' (first | rfl | (rw [if_pos (by first | omega | (simp; done) | (simp; omega) | (simp_all; done) | (simp_all; omega))]) | (rw [if_neg (by first | omega | (simp; done) | (simp; omega) | (simp_all; done) | (simp_all; omega))]))
  · have g1b : decide (255 < a.Flags) = false := decide_eq_false g1
    replace g1 := Lib.hid g1
    by_cases g2 : a.Id = 0
    · have g2b : decide (a.Id = 0) = true := decide_eq_true g2
      replace g2 := Lib.hid g2
      go_enter Tryd.func11, Tryd.ntmps11
      go_wp2_with (first | (refine wpList_load_mid rfl _ _ rfl w.heap.size 0 rfl M _ (hrg.out _ hbx) Tryd.underlying26 rfl hMi.out ?_) | (go_at_call 35; with_reducible refine (kS.out _ hbx).mono ?_; rintro e Wn ⟨rfl, hbn⟩; replace hbx := hbn; clear hbn; clear i0 i1 d0 d1 c0 c1 m0 m1 p0 p1 ti le co fl st bo lt z0 z1 zt; obtain ⟨i0, i1, d0, d1, c0, c1, m0, m1, p0, p1, ti, le, co, fl, st, bo, lt, z0, z1, zt⟩ := hg.out _ hbx) | (go_at_call 36; with_reducible refine (kT.out _ hbx).mono ?_; rintro e Wn ⟨rfl, hbn⟩; replace hbx := hbn; clear hbn; clear i0 i1 d0 d1 c0 c1 m0 m1 p0 p1 ti le co fl st bo lt z0 z1 zt; obtain ⟨i0, i1, d0, d1, c0, c1, m0, m1, p0, p1, ti, le, co, fl, st, bo, lt, z0, z1, zt⟩ := hg.out _ hbx) | (go_at_call 15; with_reducible refine (kE.out _ hbx).mono ?_; rintro e Wn ⟨rfl, hbn⟩; replace hbx := hbn; clear hbn; clear i0 i1 d0 d1 c0 c1 m0 m1 p0 p1 ti le co fl st bo lt z0 z1 zt; obtain ⟨i0, i1, d0, d1, c0, c1, m0, m1, p0, p1, ti, le, co, fl, st, bo, lt, z0, z1, zt⟩ := hg.out _ hbx) | (go_at_call 16; with_reducible refine (k2.out _ hbx).mono ?_; rintro e Wn ⟨rfl, hbn⟩; replace hbx := hbn; clear hbn; clear i0 i1 d0 d1 c0 c1 m0 m1 p0 p1 ti le co fl st bo lt z0 z1 zt; obtain ⟨i0, i1, d0, d1, c0, c1, m0, m1, p0, p1, ti, le, co, fl, st, bo, lt, z0, z1, zt⟩ := hg.out _ hbx) | (go_at_call 16; with_reducible refine (k16.out _ hbx).mono ?_; rintro e Wn ⟨rfl, hbn⟩; replace hbx := hbn; clear hbn; clear i0 i1 d0 d1 c0 c1 m0 m1 p0 p1 ti le co fl st bo lt z0 z1 zt; obtain ⟨i0, i1, d0, d1, c0, c1, m0, m1, p0, p1, ti, le, co, fl, st, bo, lt, z0, z1, zt⟩ := hg.out _ hbx) | (go_at_call 16; with_reducible refine (k32.out _ hbx).mono ?_; rintro e Wn ⟨rfl, hbn⟩; replace hbx := hbn; clear hbn; clear i0 i1 d0 d1 c0 c1 m0 m1 p0 p1 ti le co fl st bo lt z0 z1 zt; obtain ⟨i0, i1, d0, d1, c0, c1, m0, m1, p0, p1, ti, le, co, fl, st, bo, lt, z0, z1, zt⟩ := hg.out _ hbx))
      all_goals
        go_ret
        refine ⟨congrArg (fun v : Int => Ending.returned (.int .i64 v)) ?_, hbx.bel⟩
        clear hbx hg hrg kS kT kE k2 k16 k32 hV hMi i0 i1 d0 d1 c0 c1 m0 m1 p0 p1 ti le co fl st bo lt z0 z1 zt
        unfold chkT
        rw [eT.out, eE.out, e2.out, e16.out, e32.out]
        clear eT eE e2 e16 e32
        try replace h0 := h0.out
        try replace g1 := g1.out
        try replace g2 := g2.out
        repeat' (first | rfl | (rw [if_pos (by first | omega | (simp; done) | (simp; omega) | (simp_all; done) | (simp_all; omega))]) | (rw [if_neg (by first | omega | (simp; done) | (simp; omega) | (simp_all; done) | (simp_all; omega))]))
    · have g2b : decide (a.Id = 0) = false := decide_eq_false g2
      replace g2 := Lib.hid g2
      by_cases g3 : a.Id = mostN
      · have g3b : decide (a.Id = mostN) = true := decide_eq_true g3
        replace g3 := Lib.hid g3
        go_enter Tryd.func11, Tryd.ntmps11
        go_wp2_with (first | (refine wpList_load_mid rfl _ _ rfl w.heap.size 0 rfl M _ (hrg.out _ hbx) Tryd.underlying26 rfl hMi.out ?_) | (go_at_call 35; with_reducible refine (kS.out _ hbx).mono ?_; rintro e Wn ⟨rfl, hbn⟩; replace hbx := hbn; clear hbn; clear i0 i1 d0 d1 c0 c1 m0 m1 p0 p1 ti le co fl st bo lt z0 z1 zt; obtain ⟨i0, i1, d0, d1, c0, c1, m0, m1, p0, p1, ti, le, co, fl, st, bo, lt, z0, z1, zt⟩ := hg.out _ hbx) | (go_at_call 36; with_reducible refine (kT.out _ hbx).mono ?_; rintro e Wn ⟨rfl, hbn⟩; replace hbx := hbn; clear hbn; clear i0 i1 d0 d1 c0 c1 m0 m1 p0 p1 ti le co fl st bo lt z0 z1 zt; obtain ⟨i0, i1, d0, d1, c0, c1, m0, m1, p0, p1, ti, le, co, fl, st, bo, lt, z0, z1, zt⟩ := hg.out _ hbx) | (go_at_call 15; with_reducible refine (kE.out _ hbx).mono ?_; rintro e Wn ⟨rfl, hbn⟩; replace hbx := hbn; clear hbn; clear i0 i1 d0 d1 c0 c1 m0 m1 p0 p1 ti le co fl st bo lt z0 z1 zt; obtain ⟨i0, i1, d0, d1, c0, c1, m0, m1, p0, p1, ti, le, co, fl, st, bo, lt, z0, z1, zt⟩ := hg.out _ hbx) | (go_at_call 16; with_reducible refine (k2.out _ hbx).mono ?_; rintro e Wn ⟨rfl, hbn⟩; replace hbx := hbn; clear hbn; clear i0 i1 d0 d1 c0 c1 m0 m1 p0 p1 ti le co fl st bo lt z0 z1 zt; obtain ⟨i0, i1, d0, d1, c0, c1, m0, m1, p0, p1, ti, le, co, fl, st, bo, lt, z0, z1, zt⟩ := hg.out _ hbx) | (go_at_call 16; with_reducible refine (k16.out _ hbx).mono ?_; rintro e Wn ⟨rfl, hbn⟩; replace hbx := hbn; clear hbn; clear i0 i1 d0 d1 c0 c1 m0 m1 p0 p1 ti le co fl st bo lt z0 z1 zt; obtain ⟨i0, i1, d0, d1, c0, c1, m0, m1, p0, p1, ti, le, co, fl, st, bo, lt, z0, z1, zt⟩ := hg.out _ hbx) | (go_at_call 16; with_reducible refine (k32.out _ hbx).mono ?_; rintro e Wn ⟨rfl, hbn⟩; replace hbx := hbn; clear hbn; clear i0 i1 d0 d1 c0 c1 m0 m1 p0 p1 ti le co fl st bo lt z0 z1 zt; obtain ⟨i0, i1, d0, d1, c0, c1, m0, m1, p0, p1, ti, le, co, fl, st, bo, lt, z0, z1, zt⟩ := hg.out _ hbx))
        all_goals
          go_ret
          refine ⟨congrArg (fun v : Int => Ending.returned (.int .i64 v)) ?_, hbx.bel⟩
          clear hbx hg hrg kS kT kE k2 k16 k32 hV hMi i0 i1 d0 d1 c0 c1 m0 m1 p0 p1 ti le co fl st bo lt z0 z1 zt
          unfold chkT
          rw [eT.out, eE.out, e2.out, e16.out, e32.out]
          clear eT eE e2 e16 e32
          try replace h0 := h0.out
          try replace g1 := g1.out
          try replace g2 := g2.out
          try replace g3 := g3.out
          repeat' (first | rfl | (rw [if_pos (by first | omega | (simp; done) | (simp; omega) | (simp_all; done) | (simp_all; omega))]) | (rw [if_neg (by first | omega | (simp; done) | (simp; omega) | (simp_all; done) | (simp_all; omega))]))
      · have g3b : decide (a.Id = mostN) = false := decide_eq_false g3
        replace g3 := Lib.hid g3
        cases bT
        · go_enter Tryd.func11, Tryd.ntmps11
          go_wp2_with (first | (refine wpList_load_mid rfl _ _ rfl w.heap.size 0 rfl M _ (hrg.out _ hbx) Tryd.underlying26 rfl hMi.out ?_) | (go_at_call 35; with_reducible refine (kS.out _ hbx).mono ?_; rintro e Wn ⟨rfl, hbn⟩; replace hbx := hbn; clear hbn; clear i0 i1 d0 d1 c0 c1 m0 m1 p0 p1 ti le co fl st bo lt z0 z1 zt; obtain ⟨i0, i1, d0, d1, c0, c1, m0, m1, p0, p1, ti, le, co, fl, st, bo, lt, z0, z1, zt⟩ := hg.out _ hbx) | (go_at_call 36; with_reducible refine (kT.out _ hbx).mono ?_; rintro e Wn ⟨rfl, hbn⟩; replace hbx := hbn; clear hbn; clear i0 i1 d0 d1 c0 c1 m0 m1 p0 p1 ti le co fl st bo lt z0 z1 zt; obtain ⟨i0, i1, d0, d1, c0, c1, m0, m1, p0, p1, ti, le, co, fl, st, bo, lt, z0, z1, zt⟩ := hg.out _ hbx) | (go_at_call 15; with_reducible refine (kE.out _ hbx).mono ?_; rintro e Wn ⟨rfl, hbn⟩; replace hbx := hbn; clear hbn; clear i0 i1 d0 d1 c0 c1 m0 m1 p0 p1 ti le co fl st bo lt z0 z1 zt; obtain ⟨i0, i1, d0, d1, c0, c1, m0, m1, p0, p1, ti, le, co, fl, st, bo, lt, z0, z1, zt⟩ := hg.out _ hbx) | (go_at_call 16; with_reducible refine (k2.out _ hbx).mono ?_; rintro e Wn ⟨rfl, hbn⟩; replace hbx := hbn; clear hbn; clear i0 i1 d0 d1 c0 c1 m0 m1 p0 p1 ti le co fl st bo lt z0 z1 zt; obtain ⟨i0, i1, d0, d1, c0, c1, m0, m1, p0, p1, ti, le, co, fl, st, bo, lt, z0, z1, zt⟩ := hg.out _ hbx) | (go_at_call 16; with_reducible refine (k16.out _ hbx).mono ?_; rintro e Wn ⟨rfl, hbn⟩; replace hbx := hbn; clear hbn; clear i0 i1 d0 d1 c0 c1 m0 m1 p0 p1 ti le co fl st bo lt z0 z1 zt; obtain ⟨i0, i1, d0, d1, c0, c1, m0, m1, p0, p1, ti, le, co, fl, st, bo, lt, z0, z1, zt⟩ := hg.out _ hbx) | (go_at_call 16; with_reducible refine (k32.out _ hbx).mono ?_; rintro e Wn ⟨rfl, hbn⟩; replace hbx := hbn; clear hbn; clear i0 i1 d0 d1 c0 c1 m0 m1 p0 p1 ti le co fl st bo lt z0 z1 zt; obtain ⟨i0, i1, d0, d1, c0, c1, m0, m1, p0, p1, ti, le, co, fl, st, bo, lt, z0, z1, zt⟩ := hg.out _ hbx))
          all_goals
            go_ret
            refine ⟨congrArg (fun v : Int => Ending.returned (.int .i64 v)) ?_, hbx.bel⟩
            clear hbx hg hrg kS kT kE k2 k16 k32 hV hMi i0 i1 d0 d1 c0 c1 m0 m1 p0 p1 ti le co fl st bo lt z0 z1 zt
            unfold chkT
            rw [eT.out, eE.out, e2.out, e16.out, e32.out]
            clear eT eE e2 e16 e32
            try replace h0 := h0.out
            try replace g1 := g1.out
            try replace g2 := g2.out
            try replace g3 := g3.out
            repeat' (first | rfl | (rw [if_pos (by first | omega | (simp; done) | (simp; omega) | (simp_all; done) | (simp_all; omega))]) | (rw [if_neg (by first | omega | (simp; done) | (simp; omega) | (simp_all; done) | (simp_all; omega))]))
        · by_cases g4 : a.Stamp = 0
          · have g4b : (a.Stamp != 0) = false := by simp [g4]
            replace g4 := Lib.hid g4
            by_cases g5 : a.Born = 0
            · have g5b : (a.Born != 0) = false := by simp [g5]
              replace g5 := Lib.hid g5
              by_cases g6 : a.Timeout < 0
              · have g6b : decide (a.Timeout < 0) = true := decide_eq_true g6
                replace g6 := Lib.hid g6
                go_enter Tryd.func11, Tryd.ntmps11
                go_wp2_with (first | (refine wpList_load_mid rfl _ _ rfl w.heap.size 0 rfl M _ (hrg.out _ hbx) Tryd.underlying26 rfl hMi.out ?_) | (go_at_call 35; with_reducible refine (kS.out _ hbx).mono ?_; rintro e Wn ⟨rfl, hbn⟩; replace hbx := hbn; clear hbn; clear i0 i1 d0 d1 c0 c1 m0 m1 p0 p1 ti le co fl st bo lt z0 z1 zt; obtain ⟨i0, i1, d0, d1, c0, c1, m0, m1, p0, p1, ti, le, co, fl, st, bo, lt, z0, z1, zt⟩ := hg.out _ hbx))
                with_reducible refine (kT.out _ hbx).mono ?_
                rintro e Wn ⟨rfl, hbn⟩
                replace hbx := hbn
                clear hbn
                clear i0 i1 d0 d1 c0 c1 m0 m1 p0 p1 ti le co fl st bo lt z0 z1 zt
                obtain ⟨i0, i1, d0, d1, c0, c1, m0, m1, p0, p1, ti, le, co, fl, st, bo, lt, z0, z1, zt⟩ := hg.out _ hbx
                go_wp2_with fail
                all_goals
                  go_ret
                  refine ⟨congrArg (fun v : Int => Ending.returned (.int .i64 v)) ?_, hbx.bel⟩
                  clear hbx hg hrg kS kT kE k2 k16 k32 hV hMi i0 i1 d0 d1 c0 c1 m0 m1 p0 p1 ti le co fl st bo lt z0 z1 zt
                  unfold chkT
                  rw [eT.out, eE.out, e2.out, e16.out, e32.out]
                  clear eT eE e2 e16 e32
                  try replace h0 := h0.out
                  try replace g1 := g1.out
                  try replace g2 := g2.out
                  try replace g3 := g3.out
                  try replace g4 := g4.out
                  try replace g5 := g5.out
                  try replace g6 := g6.out
                  repeat' (first | rfl | (rw [if_pos (by first | omega | (simp; done) | (simp; omega) | (simp_all; done) | (simp_all; omega))]) | (rw [if_neg (by first | omega | (simp; done) | (simp; omega) | (simp_all; done) | (simp_all; omega))]))
              · have g6b : decide (a.Timeout < 0) = false := decide_eq_false g6
                replace g6 := Lib.hid g6
                by_cases g7 : 1073741824 < a.Timeout
                · have g7b : decide (1073741824 < a.Timeout) = true := decide_eq_true g7
                  replace g7 := Lib.hid g7
                  go_enter Tryd.func11, Tryd.ntmps11
                  go_wp2_with (first | (refine wpList_load_mid rfl _ _ rfl w.heap.size 0 rfl M _ (hrg.out _ hbx) Tryd.underlying26 rfl hMi.out ?_) | (go_at_call 35; with_reducible refine (kS.out _ hbx).mono ?_; rintro e Wn ⟨rfl, hbn⟩; replace hbx := hbn; clear hbn; clear i0 i1 d0 d1 c0 c1 m0 m1 p0 p1 ti le co fl st bo lt z0 z1 zt; obtain ⟨i0, i1, d0, d1, c0, c1, m0, m1, p0, p1, ti, le, co, fl, st, bo, lt, z0, z1, zt⟩ := hg.out _ hbx))
                  with_reducible refine (kT.out _ hbx).mono ?_
                  rintro e Wn ⟨rfl, hbn⟩
                  replace hbx := hbn
                  clear hbn
                  clear i0 i1 d0 d1 c0 c1 m0 m1 p0 p1 ti le co fl st bo lt z0 z1 zt
                  obtain ⟨i0, i1, d0, d1, c0, c1, m0, m1, p0, p1, ti, le, co, fl, st, bo, lt, z0, z1, zt⟩ := hg.out _ hbx
                  go_wp2_with fail
                  all_goals
                    go_ret
                    refine ⟨congrArg (fun v : Int => Ending.returned (.int .i64 v)) ?_, hbx.bel⟩
                    clear hbx hg hrg kS kT kE k2 k16 k32 hV hMi i0 i1 d0 d1 c0 c1 m0 m1 p0 p1 ti le co fl st bo lt z0 z1 zt
                    unfold chkT
                    rw [eT.out, eE.out, e2.out, e16.out, e32.out]
                    clear eT eE e2 e16 e32
                    try replace h0 := h0.out
                    try replace g1 := g1.out
                    try replace g2 := g2.out
                    try replace g3 := g3.out
                    try replace g4 := g4.out
                    try replace g5 := g5.out
                    try replace g6 := g6.out
                    try replace g7 := g7.out
                    repeat' (first | rfl | (rw [if_pos (by first | omega | (simp; done) | (simp; omega) | (simp_all; done) | (simp_all; omega))]) | (rw [if_neg (by first | omega | (simp; done) | (simp; omega) | (simp_all; done) | (simp_all; omega))]))
                · have g7b : decide (1073741824 < a.Timeout) = false := decide_eq_false g7
                  replace g7 := Lib.hid g7
                  have hE := hn.out (by have := g1.out; omega) g2.out g3.out rfl g4.out g5.out (by have := g6.out; omega) (by have := g7.out; omega)
                  have n9 : decide (0 < a.Timeout) = true := decide_eq_true hE.1
                  have hB : b2 = false := hE.2
                  subst hB
                  replace hE := Lib.hid hE.1
                  go_enter Tryd.func11, Tryd.ntmps11
                  go_wp2_with (first | (refine wpList_load_mid rfl _ _ rfl w.heap.size 0 rfl M _ (hrg.out _ hbx) Tryd.underlying26 rfl hMi.out ?_) | (refine wpList_load_midg rfl _ _ rfl w.heap.size 0 rfl M _ (hrg.out _ hbx) Tryd.underlying26 rfl hMi.out ?_) | (go_at_call 35; with_reducible refine (kS.out _ hbx).mono ?_; rintro e Wn ⟨rfl, hbn⟩; replace hbx := hbn; clear hbn; clear i0 i1 d0 d1 c0 c1 m0 m1 p0 p1 ti le co fl st bo lt z0 z1 zt; obtain ⟨i0, i1, d0, d1, c0, c1, m0, m1, p0, p1, ti, le, co, fl, st, bo, lt, z0, z1, zt⟩ := hg.out _ hbx) | (go_at_call 36; with_reducible refine (kT.out _ hbx).mono ?_; rintro e Wn ⟨rfl, hbn⟩; replace hbx := hbn; clear hbn; clear i0 i1 d0 d1 c0 c1 m0 m1 p0 p1 ti le co fl st bo lt z0 z1 zt; obtain ⟨i0, i1, d0, d1, c0, c1, m0, m1, p0, p1, ti, le, co, fl, st, bo, lt, z0, z1, zt⟩ := hg.out _ hbx) | (go_at_call 15; with_reducible refine (kE.out _ hbx).mono ?_; rintro e Wn ⟨rfl, hbn⟩; replace hbx := hbn; clear hbn; clear i0 i1 d0 d1 c0 c1 m0 m1 p0 p1 ti le co fl st bo lt z0 z1 zt; obtain ⟨i0, i1, d0, d1, c0, c1, m0, m1, p0, p1, ti, le, co, fl, st, bo, lt, z0, z1, zt⟩ := hg.out _ hbx) | (go_at_call 16; with_reducible refine (k2.out _ hbx).mono ?_; rintro e Wn ⟨rfl, hbn⟩; replace hbx := hbn; clear hbn; clear i0 i1 d0 d1 c0 c1 m0 m1 p0 p1 ti le co fl st bo lt z0 z1 zt; obtain ⟨i0, i1, d0, d1, c0, c1, m0, m1, p0, p1, ti, le, co, fl, st, bo, lt, z0, z1, zt⟩ := hg.out _ hbx) | (go_at_call 16; with_reducible refine (k16.out _ hbx).mono ?_; rintro e Wn ⟨rfl, hbn⟩; replace hbx := hbn; clear hbn; clear i0 i1 d0 d1 c0 c1 m0 m1 p0 p1 ti le co fl st bo lt z0 z1 zt; obtain ⟨i0, i1, d0, d1, c0, c1, m0, m1, p0, p1, ti, le, co, fl, st, bo, lt, z0, z1, zt⟩ := hg.out _ hbx) | (go_at_call 16; with_reducible refine (k32.out _ hbx).mono ?_; rintro e Wn ⟨rfl, hbn⟩; replace hbx := hbn; clear hbn; clear i0 i1 d0 d1 c0 c1 m0 m1 p0 p1 ti le co fl st bo lt z0 z1 zt; obtain ⟨i0, i1, d0, d1, c0, c1, m0, m1, p0, p1, ti, le, co, fl, st, bo, lt, z0, z1, zt⟩ := hg.out _ hbx))
                  all_goals
                    go_ret
                    refine ⟨congrArg (fun v : Int => Ending.returned (.int .i64 v)) ?_, hbx.bel⟩
                    clear hbx hg hrg kS kT kE k2 k16 k32 hV hMi i0 i1 d0 d1 c0 c1 m0 m1 p0 p1 ti le co fl st bo lt z0 z1 zt
                    unfold chkT
                    rw [eT.out, eE.out, e2.out, e16.out, e32.out]
                    clear eT eE e2 e16 e32
                    try replace h0 := h0.out
                    try replace hE := hE.out
                    try replace g1 := g1.out
                    try replace g2 := g2.out
                    try replace g3 := g3.out
                    try replace g4 := g4.out
                    try replace g5 := g5.out
                    try replace g6 := g6.out
                    try replace g7 := g7.out
                    try replace g8 := g8.out
                    repeat' (first | rfl | (rw [if_pos (by first | omega | (simp; done) | (simp; omega) | (simp_all; done) | (simp_all; omega))]) | (rw [if_neg (by first | omega | (simp; done) | (simp; omega) | (simp_all; done) | (simp_all; omega))]))
            · have g5b : (a.Born != 0) = true := by simp [g5]
              replace g5 := Lib.hid g5
              go_enter Tryd.func11, Tryd.ntmps11
              go_wp2_with (first | (refine wpList_load_mid rfl _ _ rfl w.heap.size 0 rfl M _ (hrg.out _ hbx) Tryd.underlying26 rfl hMi.out ?_) | (go_at_call 35; with_reducible refine (kS.out _ hbx).mono ?_; rintro e Wn ⟨rfl, hbn⟩; replace hbx := hbn; clear hbn; clear i0 i1 d0 d1 c0 c1 m0 m1 p0 p1 ti le co fl st bo lt z0 z1 zt; obtain ⟨i0, i1, d0, d1, c0, c1, m0, m1, p0, p1, ti, le, co, fl, st, bo, lt, z0, z1, zt⟩ := hg.out _ hbx) | (go_at_call 36; with_reducible refine (kT.out _ hbx).mono ?_; rintro e Wn ⟨rfl, hbn⟩; replace hbx := hbn; clear hbn; clear i0 i1 d0 d1 c0 c1 m0 m1 p0 p1 ti le co fl st bo lt z0 z1 zt; obtain ⟨i0, i1, d0, d1, c0, c1, m0, m1, p0, p1, ti, le, co, fl, st, bo, lt, z0, z1, zt⟩ := hg.out _ hbx) | (go_at_call 15; with_reducible refine (kE.out _ hbx).mono ?_; rintro e Wn ⟨rfl, hbn⟩; replace hbx := hbn; clear hbn; clear i0 i1 d0 d1 c0 c1 m0 m1 p0 p1 ti le co fl st bo lt z0 z1 zt; obtain ⟨i0, i1, d0, d1, c0, c1, m0, m1, p0, p1, ti, le, co, fl, st, bo, lt, z0, z1, zt⟩ := hg.out _ hbx) | (go_at_call 16; with_reducible refine (k2.out _ hbx).mono ?_; rintro e Wn ⟨rfl, hbn⟩; replace hbx := hbn; clear hbn; clear i0 i1 d0 d1 c0 c1 m0 m1 p0 p1 ti le co fl st bo lt z0 z1 zt; obtain ⟨i0, i1, d0, d1, c0, c1, m0, m1, p0, p1, ti, le, co, fl, st, bo, lt, z0, z1, zt⟩ := hg.out _ hbx) | (go_at_call 16; with_reducible refine (k16.out _ hbx).mono ?_; rintro e Wn ⟨rfl, hbn⟩; replace hbx := hbn; clear hbn; clear i0 i1 d0 d1 c0 c1 m0 m1 p0 p1 ti le co fl st bo lt z0 z1 zt; obtain ⟨i0, i1, d0, d1, c0, c1, m0, m1, p0, p1, ti, le, co, fl, st, bo, lt, z0, z1, zt⟩ := hg.out _ hbx) | (go_at_call 16; with_reducible refine (k32.out _ hbx).mono ?_; rintro e Wn ⟨rfl, hbn⟩; replace hbx := hbn; clear hbn; clear i0 i1 d0 d1 c0 c1 m0 m1 p0 p1 ti le co fl st bo lt z0 z1 zt; obtain ⟨i0, i1, d0, d1, c0, c1, m0, m1, p0, p1, ti, le, co, fl, st, bo, lt, z0, z1, zt⟩ := hg.out _ hbx))
              all_goals
                go_ret
                refine ⟨congrArg (fun v : Int => Ending.returned (.int .i64 v)) ?_, hbx.bel⟩
                clear hbx hg hrg kS kT kE k2 k16 k32 hV hMi i0 i1 d0 d1 c0 c1 m0 m1 p0 p1 ti le co fl st bo lt z0 z1 zt
                unfold chkT
                rw [eT.out, eE.out, e2.out, e16.out, e32.out]
                clear eT eE e2 e16 e32
                try replace h0 := h0.out
                try replace g1 := g1.out
                try replace g2 := g2.out
                try replace g3 := g3.out
                try replace g4 := g4.out
                try replace g5 := g5.out
                try replace g6 := g6.out
                try replace g7 := g7.out
                repeat' (first | rfl | (rw [if_pos (by first | omega | (simp; done) | (simp; omega) | (simp_all; done) | (simp_all; omega))]) | (rw [if_neg (by first | omega | (simp; done) | (simp; omega) | (simp_all; done) | (simp_all; omega))]))
          · have g4b : (a.Stamp != 0) = true := by simp [g4]
            replace g4 := Lib.hid g4
            go_enter Tryd.func11, Tryd.ntmps11
            go_wp2_with (first | (refine wpList_load_mid rfl _ _ rfl w.heap.size 0 rfl M _ (hrg.out _ hbx) Tryd.underlying26 rfl hMi.out ?_) | (go_at_call 35; with_reducible refine (kS.out _ hbx).mono ?_; rintro e Wn ⟨rfl, hbn⟩; replace hbx := hbn; clear hbn; clear i0 i1 d0 d1 c0 c1 m0 m1 p0 p1 ti le co fl st bo lt z0 z1 zt; obtain ⟨i0, i1, d0, d1, c0, c1, m0, m1, p0, p1, ti, le, co, fl, st, bo, lt, z0, z1, zt⟩ := hg.out _ hbx) | (go_at_call 36; with_reducible refine (kT.out _ hbx).mono ?_; rintro e Wn ⟨rfl, hbn⟩; replace hbx := hbn; clear hbn; clear i0 i1 d0 d1 c0 c1 m0 m1 p0 p1 ti le co fl st bo lt z0 z1 zt; obtain ⟨i0, i1, d0, d1, c0, c1, m0, m1, p0, p1, ti, le, co, fl, st, bo, lt, z0, z1, zt⟩ := hg.out _ hbx) | (go_at_call 15; with_reducible refine (kE.out _ hbx).mono ?_; rintro e Wn ⟨rfl, hbn⟩; replace hbx := hbn; clear hbn; clear i0 i1 d0 d1 c0 c1 m0 m1 p0 p1 ti le co fl st bo lt z0 z1 zt; obtain ⟨i0, i1, d0, d1, c0, c1, m0, m1, p0, p1, ti, le, co, fl, st, bo, lt, z0, z1, zt⟩ := hg.out _ hbx) | (go_at_call 16; with_reducible refine (k2.out _ hbx).mono ?_; rintro e Wn ⟨rfl, hbn⟩; replace hbx := hbn; clear hbn; clear i0 i1 d0 d1 c0 c1 m0 m1 p0 p1 ti le co fl st bo lt z0 z1 zt; obtain ⟨i0, i1, d0, d1, c0, c1, m0, m1, p0, p1, ti, le, co, fl, st, bo, lt, z0, z1, zt⟩ := hg.out _ hbx) | (go_at_call 16; with_reducible refine (k16.out _ hbx).mono ?_; rintro e Wn ⟨rfl, hbn⟩; replace hbx := hbn; clear hbn; clear i0 i1 d0 d1 c0 c1 m0 m1 p0 p1 ti le co fl st bo lt z0 z1 zt; obtain ⟨i0, i1, d0, d1, c0, c1, m0, m1, p0, p1, ti, le, co, fl, st, bo, lt, z0, z1, zt⟩ := hg.out _ hbx) | (go_at_call 16; with_reducible refine (k32.out _ hbx).mono ?_; rintro e Wn ⟨rfl, hbn⟩; replace hbx := hbn; clear hbn; clear i0 i1 d0 d1 c0 c1 m0 m1 p0 p1 ti le co fl st bo lt z0 z1 zt; obtain ⟨i0, i1, d0, d1, c0, c1, m0, m1, p0, p1, ti, le, co, fl, st, bo, lt, z0, z1, zt⟩ := hg.out _ hbx))
            all_goals
              go_ret
              refine ⟨congrArg (fun v : Int => Ending.returned (.int .i64 v)) ?_, hbx.bel⟩
              clear hbx hg hrg kS kT kE k2 k16 k32 hV hMi i0 i1 d0 d1 c0 c1 m0 m1 p0 p1 ti le co fl st bo lt z0 z1 zt
              unfold chkT
              rw [eT.out, eE.out, e2.out, e16.out, e32.out]
              clear eT eE e2 e16 e32
              try replace h0 := h0.out
              try replace g1 := g1.out
              try replace g2 := g2.out
              try replace g3 := g3.out
              try replace g4 := g4.out
              try replace g5 := g5.out
              try replace g6 := g6.out
              try replace g7 := g7.out
              repeat' (first | rfl | (rw [if_pos (by first | omega | (simp; done) | (simp; omega) | (simp_all; done) | (simp_all; omega))]) | (rw [if_neg (by first | omega | (simp; done) | (simp; omega) | (simp_all; done) | (simp_all; omega))]))
end Go.Proofs.YtlalkfebedjlgaaDoor
