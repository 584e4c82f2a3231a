/- Stage 10: the document's Check of a transfer that waits with a timeout. No condition. -/
import Derived.Test.YtlalkfebedjlgaaDoorZXe
import Derived.Test.YtlalkfebedjlgaaDoorZXd
namespace Go.Proofs.YtlalkfebedjlgaaDoor
open Go.RowKit Go.Sort Wm Cr
attribute [local go_sem high] run_eql_num run_neq_num run_eql_num0 run_neq_num0

set_option maxRecDepth 100000 in
set_option maxHeartbeats 4000000 in
theorem refcheckT_time (a : Tran) (ha : a.Wf) (h0 : 0 ≤ a.Flags) (hf : a.Flags ≤ 255) (hi : ¬ a.Id = 0) (hm : ¬ a.Id = mostN) (hT : togB a.Flags = true) (hs : a.Stamp = 0) (hb : a.Born = 0) (ht0 : 0 ≤ a.Timeout) (ht1 : a.Timeout ≤ 1073741824) (hn : 0 < a.Timeout) (h2 : bitZ a.Flags 2 = true) (w : World) : Calls Tryd.prog 11 #[tranV a] w fun e w' => e = .returned (.int .i64 (chkT a)) ∧ Below w.heap.size w w' := by
  have n1 : decide (a.Flags < 0) = false := decide_eq_false (by omega)
  have n2 : decide (255 < a.Flags) = false := decide_eq_false (by omega)
  have n3 : decide (a.Timeout < 0) = false := decide_eq_false (by omega)
  have n4 : decide (1073741824 < a.Timeout) = false := decide_eq_false (by omega)
  have n5 : decide (a.Id = 0) = false := decide_eq_false hi
  have n6 : decide (a.Id = mostN) = false := decide_eq_false hm
  have n7 : (a.Stamp != 0) = false := by simp [hs]
  have n8 : (a.Born != 0) = false := by simp [hb]
  have n9 : decide (0 < a.Timeout) = true := decide_eq_true hn
  replace hf := Lib.hid hf
  replace hi := Lib.hid hi
  replace hm := Lib.hid hm
  replace hs := Lib.hid hs
  replace hb := Lib.hid hb
  replace ht0 := Lib.hid ht0
  replace ht1 := Lib.hid ht1
  replace hn := Lib.hid hn
  replace h0 := Lib.hid h0
  have kS := Lib.hid (fun W (h : Hx (fun _ => True) w W [(w.heap.size + 1, [.int .u64 0, .int .u64 0]), (w.heap.size, a.cells)]) => h.ask (fun _ _ _ _ => trivial) (refshow_any a.Id ha.Id W))
  have kT := Lib.hid (fun W (h : Hx (fun _ => True) w W [(w.heap.size + 1, [.int .u64 0, .int .u64 0]), (w.heap.size, a.cells)]) => h.ask (fun _ _ _ _ => trivial) (reftog_any a W ha h0.out))
  have kE := Lib.hid (fun W (h : Hx (fun _ => True) w W [(w.heap.size + 1, [.int .u64 0, .int .u64 0]), (w.heap.size, a.cells)]) => h.ask (fun _ _ _ _ => trivial) (refends_any a W ha h0.out))
  have k2 := Lib.hid (fun W (h : Hx (fun _ => True) w W [(w.heap.size + 1, [.int .u64 0, .int .u64 0]), (w.heap.size, a.cells)]) => h.ask (fun _ _ _ _ => trivial) (refhas_any a 2 W ha h0.out (by decide) (by decide)))
  have k16 := Lib.hid (fun W (h : Hx (fun _ => True) w W [(w.heap.size + 1, [.int .u64 0, .int .u64 0]), (w.heap.size, a.cells)]) => h.ask (fun _ _ _ _ => trivial) (refhas_any a 16 W ha h0.out (by decide) (by decide)))
  have k32 := Lib.hid (fun W (h : Hx (fun _ => True) w W [(w.heap.size + 1, [.int .u64 0, .int .u64 0]), (w.heap.size, a.cells)]) => h.ask (fun _ _ _ _ => trivial) (refhas_any a 32 W ha h0.out (by decide) (by decide)))
  have hbx := ((Hx.refl (Mo := fun _ => True) (w := w) trivial).new (fun _ _ _ _ => trivial) a.cells 26).new (fun _ _ _ _ => trivial) [.int .u64 0, .int .u64 0] 24
  rw [World.size_alloc] at hbx
  have hg := Lib.hid (fun W (h : Hx (fun _ => True) w W [(w.heap.size + 1, [.int .u64 0, .int .u64 0]), (w.heap.size, a.cells)]) => (show W.cell? ⟨w.heap.size, 0, none⟩ = some (.int .u64 ((hiN a.Id : Nat) : Int)) ∧ W.cell? ⟨w.heap.size, 1, none⟩ = some (.int .u64 ((loN a.Id : Nat) : Int)) ∧ W.cell? ⟨w.heap.size, 2, none⟩ = some (.int .u64 ((hiN a.Debit : Nat) : Int)) ∧ W.cell? ⟨w.heap.size, 3, none⟩ = some (.int .u64 ((loN a.Debit : Nat) : Int)) ∧ W.cell? ⟨w.heap.size, 4, none⟩ = some (.int .u64 ((hiN a.Credit : Nat) : Int)) ∧ W.cell? ⟨w.heap.size, 5, none⟩ = some (.int .u64 ((loN a.Credit : Nat) : Int)) ∧ W.cell? ⟨w.heap.size, 6, none⟩ = some (.int .u64 ((hiN a.Amount : Nat) : Int)) ∧ W.cell? ⟨w.heap.size, 7, none⟩ = some (.int .u64 ((loN a.Amount : Nat) : Int)) ∧ W.cell? ⟨w.heap.size, 8, none⟩ = some (.int .u64 ((hiN a.Pending : Nat) : Int)) ∧ W.cell? ⟨w.heap.size, 9, none⟩ = some (.int .u64 ((loN a.Pending : Nat) : Int)) ∧ W.cell? ⟨w.heap.size, 10, none⟩ = some (.int .i64 a.Timeout) ∧ W.cell? ⟨w.heap.size, 11, none⟩ = some (.int .i64 a.Ledger) ∧ W.cell? ⟨w.heap.size, 12, none⟩ = some (.int .i64 a.Code) ∧ W.cell? ⟨w.heap.size, 13, none⟩ = some (.int .i64 a.Flags) ∧ W.cell? ⟨w.heap.size, 14, none⟩ = some (.int .i64 a.Stamp) ∧ W.cell? ⟨w.heap.size, 15, none⟩ = some (.int .i64 a.Born) ∧ w.heap.size < W.heap.size ∧ W.cell? ⟨w.heap.size + 1, 0, none⟩ = some (.int .u64 0) ∧ W.cell? ⟨w.heap.size + 1, 1, none⟩ = some (.int .u64 0) ∧ w.heap.size + 1 < W.heap.size from
    (h.box (w.heap.size, a.cells) (by simp)).tran ⟨(h.box (w.heap.size + 1, [.int .u64 0, .int .u64 0]) (by simp)).spot 0 _ rfl, (h.box (w.heap.size + 1, [.int .u64 0, .int .u64 0]) (by simp)).spot 1 _ rfl, (h.box (w.heap.size + 1, [.int .u64 0, .int .u64 0]) (by simp)).lt⟩))
  have hrg := Lib.hid (fun W (h : Hx (fun _ => True) w W [(w.heap.size + 1, [.int .u64 0, .int .u64 0]), (w.heap.size, a.cells)]) => show W.rangeAt w.heap.size 0 a.cells from fun j v hj => by rw [Nat.zero_add]; exact (h.box (w.heap.size, a.cells) (by simp)).spot j v hj)
  have hMi := Lib.hid (show (Tryd.prog.info? 26).map (·.size) = some a.cells.length by rw [Tran.cells_length]; kernel_rfl)
  have hV : tranV a = .agg a.cells.toArray := rfl
  have hsm := show_is_most ha.Id
  rw [hV] at kT kE k2 k16 k32
  rw [hV]
  generalize a.cells = M at *
  obtain ⟨i0, i1, d0, d1, c0, c1, m0, m1, p0, p1, ti, le, co, fl, st, bo, lt, z0, z1, zt⟩ := hg.out _ hbx
  unfold numV at kS
  generalize eT : togB a.Flags = bT at *
  subst hT
  generalize eE : endsB a.Flags = bE at *
  generalize e2 : bitZ a.Flags 2 = b2 at *
  subst h2
  generalize e16 : bitZ a.Flags 16 = b16 at *
  generalize e32 : bitZ a.Flags 32 = b32 at *
  replace eT := Lib.hid eT
  replace eE := Lib.hid eE
  replace e2 := Lib.hid e2
  replace e16 := Lib.hid e16
  replace e32 := Lib.hid e32
  clear ha
  cases bE
  · by_cases g14 : a.Debit = 0
    · have g14b : decide (a.Debit = 0) = true := decide_eq_true g14
      replace g14 := Lib.hid g14
      go_enter Tryd.func11, Tryd.ntmps11
      go_wp2_with (first | (refine wpList_load_mid rfl _ _ rfl w.heap.size 0 rfl M _ (hrg.out _ hbx) Tryd.underlying26 rfl hMi.out ?_) | (refine wpList_load_midg rfl _ _ rfl w.heap.size 0 rfl M _ (hrg.out _ hbx) Tryd.underlying26 rfl hMi.out ?_) | (go_at_call 35; with_reducible refine (kS.out _ hbx).mono ?_; rintro e Wn ⟨rfl, hbn⟩; replace hbx := hbn; clear hbn; clear i0 i1 d0 d1 c0 c1 m0 m1 p0 p1 ti le co fl st bo lt z0 z1 zt; obtain ⟨i0, i1, d0, d1, c0, c1, m0, m1, p0, p1, ti, le, co, fl, st, bo, lt, z0, z1, zt⟩ := hg.out _ hbx) | (go_at_call 36; with_reducible refine (kT.out _ hbx).mono ?_; rintro e Wn ⟨rfl, hbn⟩; replace hbx := hbn; clear hbn; clear i0 i1 d0 d1 c0 c1 m0 m1 p0 p1 ti le co fl st bo lt z0 z1 zt; obtain ⟨i0, i1, d0, d1, c0, c1, m0, m1, p0, p1, ti, le, co, fl, st, bo, lt, z0, z1, zt⟩ := hg.out _ hbx) | (go_at_call 15; with_reducible refine (kE.out _ hbx).mono ?_; rintro e Wn ⟨rfl, hbn⟩; replace hbx := hbn; clear hbn; clear i0 i1 d0 d1 c0 c1 m0 m1 p0 p1 ti le co fl st bo lt z0 z1 zt; obtain ⟨i0, i1, d0, d1, c0, c1, m0, m1, p0, p1, ti, le, co, fl, st, bo, lt, z0, z1, zt⟩ := hg.out _ hbx) | (go_at_call 16; with_reducible refine (k2.out _ hbx).mono ?_; rintro e Wn ⟨rfl, hbn⟩; replace hbx := hbn; clear hbn; clear i0 i1 d0 d1 c0 c1 m0 m1 p0 p1 ti le co fl st bo lt z0 z1 zt; obtain ⟨i0, i1, d0, d1, c0, c1, m0, m1, p0, p1, ti, le, co, fl, st, bo, lt, z0, z1, zt⟩ := hg.out _ hbx) | (go_at_call 16; with_reducible refine (k16.out _ hbx).mono ?_; rintro e Wn ⟨rfl, hbn⟩; replace hbx := hbn; clear hbn; clear i0 i1 d0 d1 c0 c1 m0 m1 p0 p1 ti le co fl st bo lt z0 z1 zt; obtain ⟨i0, i1, d0, d1, c0, c1, m0, m1, p0, p1, ti, le, co, fl, st, bo, lt, z0, z1, zt⟩ := hg.out _ hbx) | (go_at_call 16; with_reducible refine (k32.out _ hbx).mono ?_; rintro e Wn ⟨rfl, hbn⟩; replace hbx := hbn; clear hbn; clear i0 i1 d0 d1 c0 c1 m0 m1 p0 p1 ti le co fl st bo lt z0 z1 zt; obtain ⟨i0, i1, d0, d1, c0, c1, m0, m1, p0, p1, ti, le, co, fl, st, bo, lt, z0, z1, zt⟩ := hg.out _ hbx))
      all_goals
        go_ret
        refine ⟨congrArg (fun v : Int => Ending.returned (.int .i64 v)) ?_, hbx.bel⟩
        clear hbx hg hrg kS kT kE k2 k16 k32 hV hMi i0 i1 d0 d1 c0 c1 m0 m1 p0 p1 ti le co fl st bo lt z0 z1 zt
        unfold chkT
        rw [eT.out, eE.out, e2.out, e16.out, e32.out]
        clear eT eE e2 e16 e32
        try replace hf := hf.out
        try replace hi := hi.out
        try replace hm := hm.out
        try replace hs := hs.out
        try replace hb := hb.out
        try replace ht0 := ht0.out
        try replace ht1 := ht1.out
        try replace hn := hn.out
        try replace h0 := h0.out
        try replace g1 := g1.out
        try replace g2 := g2.out
        try replace g3 := g3.out
        try replace g4 := g4.out
        try replace g5 := g5.out
        try replace g6 := g6.out
        try replace g7 := g7.out
        try replace g8 := g8.out
        try replace g9 := g9.out
        try replace g10 := g10.out
        try replace g11 := g11.out
        try replace g12 := g12.out
        try replace g13 := g13.out
        try replace g14 := g14.out
        repeat' (first | rfl | (rw [if_pos (by first | omega | (simp; done) | (simp; omega) | (simp_all; done) | (simp_all; omega))]) | (rw [if_neg (by first | omega | (simp; done) | (simp; omega) | (simp_all; done) | (simp_all; omega))]))
    · have g14b : decide (a.Debit = 0) = false := decide_eq_false g14
      replace g14 := Lib.hid g14
      by_cases g15 : a.Credit = 0
      · have g15b : decide (a.Credit = 0) = true := decide_eq_true g15
        replace g15 := Lib.hid g15
        go_enter Tryd.func11, Tryd.ntmps11
        go_wp2_with (first | (refine wpList_load_mid rfl _ _ rfl w.heap.size 0 rfl M _ (hrg.out _ hbx) Tryd.underlying26 rfl hMi.out ?_) | (refine wpList_load_midg rfl _ _ rfl w.heap.size 0 rfl M _ (hrg.out _ hbx) Tryd.underlying26 rfl hMi.out ?_) | (go_at_call 35; with_reducible refine (kS.out _ hbx).mono ?_; rintro e Wn ⟨rfl, hbn⟩; replace hbx := hbn; clear hbn; clear i0 i1 d0 d1 c0 c1 m0 m1 p0 p1 ti le co fl st bo lt z0 z1 zt; obtain ⟨i0, i1, d0, d1, c0, c1, m0, m1, p0, p1, ti, le, co, fl, st, bo, lt, z0, z1, zt⟩ := hg.out _ hbx) | (go_at_call 36; with_reducible refine (kT.out _ hbx).mono ?_; rintro e Wn ⟨rfl, hbn⟩; replace hbx := hbn; clear hbn; clear i0 i1 d0 d1 c0 c1 m0 m1 p0 p1 ti le co fl st bo lt z0 z1 zt; obtain ⟨i0, i1, d0, d1, c0, c1, m0, m1, p0, p1, ti, le, co, fl, st, bo, lt, z0, z1, zt⟩ := hg.out _ hbx) | (go_at_call 15; with_reducible refine (kE.out _ hbx).mono ?_; rintro e Wn ⟨rfl, hbn⟩; replace hbx := hbn; clear hbn; clear i0 i1 d0 d1 c0 c1 m0 m1 p0 p1 ti le co fl st bo lt z0 z1 zt; obtain ⟨i0, i1, d0, d1, c0, c1, m0, m1, p0, p1, ti, le, co, fl, st, bo, lt, z0, z1, zt⟩ := hg.out _ hbx) | (go_at_call 16; with_reducible refine (k2.out _ hbx).mono ?_; rintro e Wn ⟨rfl, hbn⟩; replace hbx := hbn; clear hbn; clear i0 i1 d0 d1 c0 c1 m0 m1 p0 p1 ti le co fl st bo lt z0 z1 zt; obtain ⟨i0, i1, d0, d1, c0, c1, m0, m1, p0, p1, ti, le, co, fl, st, bo, lt, z0, z1, zt⟩ := hg.out _ hbx) | (go_at_call 16; with_reducible refine (k16.out _ hbx).mono ?_; rintro e Wn ⟨rfl, hbn⟩; replace hbx := hbn; clear hbn; clear i0 i1 d0 d1 c0 c1 m0 m1 p0 p1 ti le co fl st bo lt z0 z1 zt; obtain ⟨i0, i1, d0, d1, c0, c1, m0, m1, p0, p1, ti, le, co, fl, st, bo, lt, z0, z1, zt⟩ := hg.out _ hbx) | (go_at_call 16; with_reducible refine (k32.out _ hbx).mono ?_; rintro e Wn ⟨rfl, hbn⟩; replace hbx := hbn; clear hbn; clear i0 i1 d0 d1 c0 c1 m0 m1 p0 p1 ti le co fl st bo lt z0 z1 zt; obtain ⟨i0, i1, d0, d1, c0, c1, m0, m1, p0, p1, ti, le, co, fl, st, bo, lt, z0, z1, zt⟩ := hg.out _ hbx))
        all_goals
          go_ret
          refine ⟨congrArg (fun v : Int => Ending.returned (.int .i64 v)) ?_, hbx.bel⟩
          clear hbx hg hrg kS kT kE k2 k16 k32 hV hMi i0 i1 d0 d1 c0 c1 m0 m1 p0 p1 ti le co fl st bo lt z0 z1 zt
          unfold chkT
          rw [eT.out, eE.out, e2.out, e16.out, e32.out]
          clear eT eE e2 e16 e32
          try replace hf := hf.out
          try replace hi := hi.out
          try replace hm := hm.out
          try replace hs := hs.out
          try replace hb := hb.out
          try replace ht0 := ht0.out
          try replace ht1 := ht1.out
          try replace hn := hn.out
          try replace h0 := h0.out
          try replace g1 := g1.out
          try replace g2 := g2.out
          try replace g3 := g3.out
          try replace g4 := g4.out
          try replace g5 := g5.out
          try replace g6 := g6.out
          try replace g7 := g7.out
          try replace g8 := g8.out
          try replace g9 := g9.out
          try replace g10 := g10.out
          try replace g11 := g11.out
          try replace g12 := g12.out
          try replace g13 := g13.out
          try replace g14 := g14.out
          try replace g15 := g15.out
          repeat' (first | rfl | (rw [if_pos (by first | omega | (simp; done) | (simp; omega) | (simp_all; done) | (simp_all; omega))]) | (rw [if_neg (by first | omega | (simp; done) | (simp; omega) | (simp_all; done) | (simp_all; omega))]))
      · have g15b : decide (a.Credit = 0) = false := decide_eq_false g15
        replace g15 := Lib.hid g15
        by_cases g16 : a.Debit = a.Credit
        · have g16b : decide (a.Debit = a.Credit) = true := decide_eq_true g16
          replace g16 := Lib.hid g16
          go_enter Tryd.func11, Tryd.ntmps11
          go_wp2_with (first | (refine wpList_load_mid rfl _ _ rfl w.heap.size 0 rfl M _ (hrg.out _ hbx) Tryd.underlying26 rfl hMi.out ?_) | (refine wpList_load_midg rfl _ _ rfl w.heap.size 0 rfl M _ (hrg.out _ hbx) Tryd.underlying26 rfl hMi.out ?_) | (go_at_call 35; with_reducible refine (kS.out _ hbx).mono ?_; rintro e Wn ⟨rfl, hbn⟩; replace hbx := hbn; clear hbn; clear i0 i1 d0 d1 c0 c1 m0 m1 p0 p1 ti le co fl st bo lt z0 z1 zt; obtain ⟨i0, i1, d0, d1, c0, c1, m0, m1, p0, p1, ti, le, co, fl, st, bo, lt, z0, z1, zt⟩ := hg.out _ hbx) | (go_at_call 36; with_reducible refine (kT.out _ hbx).mono ?_; rintro e Wn ⟨rfl, hbn⟩; replace hbx := hbn; clear hbn; clear i0 i1 d0 d1 c0 c1 m0 m1 p0 p1 ti le co fl st bo lt z0 z1 zt; obtain ⟨i0, i1, d0, d1, c0, c1, m0, m1, p0, p1, ti, le, co, fl, st, bo, lt, z0, z1, zt⟩ := hg.out _ hbx) | (go_at_call 15; with_reducible refine (kE.out _ hbx).mono ?_; rintro e Wn ⟨rfl, hbn⟩; replace hbx := hbn; clear hbn; clear i0 i1 d0 d1 c0 c1 m0 m1 p0 p1 ti le co fl st bo lt z0 z1 zt; obtain ⟨i0, i1, d0, d1, c0, c1, m0, m1, p0, p1, ti, le, co, fl, st, bo, lt, z0, z1, zt⟩ := hg.out _ hbx) | (go_at_call 16; with_reducible refine (k2.out _ hbx).mono ?_; rintro e Wn ⟨rfl, hbn⟩; replace hbx := hbn; clear hbn; clear i0 i1 d0 d1 c0 c1 m0 m1 p0 p1 ti le co fl st bo lt z0 z1 zt; obtain ⟨i0, i1, d0, d1, c0, c1, m0, m1, p0, p1, ti, le, co, fl, st, bo, lt, z0, z1, zt⟩ := hg.out _ hbx) | (go_at_call 16; with_reducible refine (k16.out _ hbx).mono ?_; rintro e Wn ⟨rfl, hbn⟩; replace hbx := hbn; clear hbn; clear i0 i1 d0 d1 c0 c1 m0 m1 p0 p1 ti le co fl st bo lt z0 z1 zt; obtain ⟨i0, i1, d0, d1, c0, c1, m0, m1, p0, p1, ti, le, co, fl, st, bo, lt, z0, z1, zt⟩ := hg.out _ hbx) | (go_at_call 16; with_reducible refine (k32.out _ hbx).mono ?_; rintro e Wn ⟨rfl, hbn⟩; replace hbx := hbn; clear hbn; clear i0 i1 d0 d1 c0 c1 m0 m1 p0 p1 ti le co fl st bo lt z0 z1 zt; obtain ⟨i0, i1, d0, d1, c0, c1, m0, m1, p0, p1, ti, le, co, fl, st, bo, lt, z0, z1, zt⟩ := hg.out _ hbx))
          all_goals
            go_ret
            refine ⟨congrArg (fun v : Int => Ending.returned (.int .i64 v)) ?_, hbx.bel⟩
            clear hbx hg hrg kS kT kE k2 k16 k32 hV hMi i0 i1 d0 d1 c0 c1 m0 m1 p0 p1 ti le co fl st bo lt z0 z1 zt
            unfold chkT
            rw [eT.out, eE.out, e2.out, e16.out, e32.out]
            clear eT eE e2 e16 e32
            try replace hf := hf.out
            try replace hi := hi.out
            try replace hm := hm.out
            try replace hs := hs.out
            try replace hb := hb.out
            try replace ht0 := ht0.out
            try replace ht1 := ht1.out
            try replace hn := hn.out
            try replace h0 := h0.out
            try replace g1 := g1.out
            try replace g2 := g2.out
            try replace g3 := g3.out
            try replace g4 := g4.out
            try replace g5 := g5.out
            try replace g6 := g6.out
            try replace g7 := g7.out
            try replace g8 := g8.out
            try replace g9 := g9.out
            try replace g10 := g10.out
            try replace g11 := g11.out
            try replace g12 := g12.out
            try replace g13 := g13.out
            try replace g14 := g14.out
            try replace g15 := g15.out
            try replace g16 := g16.out
            repeat' (first | rfl | (rw [if_pos (by first | omega | (simp; done) | (simp; omega) | (simp_all; done) | (simp_all; omega))]) | (rw [if_neg (by first | omega | (simp; done) | (simp; omega) | (simp_all; done) | (simp_all; omega))]))
        · have g16b : decide (a.Debit = a.Credit) = false := decide_eq_false g16
          replace g16 := Lib.hid g16
          by_cases g17 : a.Pending = 0
          · have g17b : decide (a.Pending = 0) = true := decide_eq_true g17
            replace g17 := Lib.hid g17
            by_cases g18 : a.Amount = 0
            · have g18b : decide (a.Amount = 0) = true := decide_eq_true g18
              replace g18 := Lib.hid g18
              cases b16
              · cases b32
                · go_enter Tryd.func11, Tryd.ntmps11
                  go_wp2_with (first | (refine wpList_load_mid rfl _ _ rfl w.heap.size 0 rfl M _ (hrg.out _ hbx) Tryd.underlying26 rfl hMi.out ?_) | (refine wpList_load_midg rfl _ _ rfl w.heap.size 0 rfl M _ (hrg.out _ hbx) Tryd.underlying26 rfl hMi.out ?_) | (go_at_call 35; with_reducible refine (kS.out _ hbx).mono ?_; rintro e Wn ⟨rfl, hbn⟩; replace hbx := hbn; clear hbn; clear i0 i1 d0 d1 c0 c1 m0 m1 p0 p1 ti le co fl st bo lt z0 z1 zt; obtain ⟨i0, i1, d0, d1, c0, c1, m0, m1, p0, p1, ti, le, co, fl, st, bo, lt, z0, z1, zt⟩ := hg.out _ hbx) | (go_at_call 36; with_reducible refine (kT.out _ hbx).mono ?_; rintro e Wn ⟨rfl, hbn⟩; replace hbx := hbn; clear hbn; clear i0 i1 d0 d1 c0 c1 m0 m1 p0 p1 ti le co fl st bo lt z0 z1 zt; obtain ⟨i0, i1, d0, d1, c0, c1, m0, m1, p0, p1, ti, le, co, fl, st, bo, lt, z0, z1, zt⟩ := hg.out _ hbx) | (go_at_call 15; with_reducible refine (kE.out _ hbx).mono ?_; rintro e Wn ⟨rfl, hbn⟩; replace hbx := hbn; clear hbn; clear i0 i1 d0 d1 c0 c1 m0 m1 p0 p1 ti le co fl st bo lt z0 z1 zt; obtain ⟨i0, i1, d0, d1, c0, c1, m0, m1, p0, p1, ti, le, co, fl, st, bo, lt, z0, z1, zt⟩ := hg.out _ hbx) | (go_at_call 16; with_reducible refine (k2.out _ hbx).mono ?_; rintro e Wn ⟨rfl, hbn⟩; replace hbx := hbn; clear hbn; clear i0 i1 d0 d1 c0 c1 m0 m1 p0 p1 ti le co fl st bo lt z0 z1 zt; obtain ⟨i0, i1, d0, d1, c0, c1, m0, m1, p0, p1, ti, le, co, fl, st, bo, lt, z0, z1, zt⟩ := hg.out _ hbx) | (go_at_call 16; with_reducible refine (k16.out _ hbx).mono ?_; rintro e Wn ⟨rfl, hbn⟩; replace hbx := hbn; clear hbn; clear i0 i1 d0 d1 c0 c1 m0 m1 p0 p1 ti le co fl st bo lt z0 z1 zt; obtain ⟨i0, i1, d0, d1, c0, c1, m0, m1, p0, p1, ti, le, co, fl, st, bo, lt, z0, z1, zt⟩ := hg.out _ hbx) | (go_at_call 16; with_reducible refine (k32.out _ hbx).mono ?_; rintro e Wn ⟨rfl, hbn⟩; replace hbx := hbn; clear hbn; clear i0 i1 d0 d1 c0 c1 m0 m1 p0 p1 ti le co fl st bo lt z0 z1 zt; obtain ⟨i0, i1, d0, d1, c0, c1, m0, m1, p0, p1, ti, le, co, fl, st, bo, lt, z0, z1, zt⟩ := hg.out _ hbx))
                  all_goals
                    go_ret
                    refine ⟨congrArg (fun v : Int => Ending.returned (.int .i64 v)) ?_, hbx.bel⟩
                    clear hbx hg hrg kS kT kE k2 k16 k32 hV hMi i0 i1 d0 d1 c0 c1 m0 m1 p0 p1 ti le co fl st bo lt z0 z1 zt
                    unfold chkT
                    rw [eT.out, eE.out, e2.out, e16.out, e32.out]
                    clear eT eE e2 e16 e32
                    try replace hf := hf.out
                    try replace hi := hi.out
                    try replace hm := hm.out
                    try replace hs := hs.out
                    try replace hb := hb.out
                    try replace ht0 := ht0.out
                    try replace ht1 := ht1.out
                    try replace hn := hn.out
                    try replace h0 := h0.out
                    try replace g1 := g1.out
                    try replace g2 := g2.out
                    try replace g3 := g3.out
                    try replace g4 := g4.out
                    try replace g5 := g5.out
                    try replace g6 := g6.out
                    try replace g7 := g7.out
                    try replace g8 := g8.out
                    try replace g9 := g9.out
                    try replace g10 := g10.out
                    try replace g11 := g11.out
                    try replace g12 := g12.out
                    try replace g13 := g13.out
                    try replace g14 := g14.out
                    try replace g15 := g15.out
                    try replace g16 := g16.out
                    try replace g17 := g17.out
                    try replace g18 := g18.out
                    repeat' (first | rfl | (rw [if_pos (by first | omega | (simp; done) | (simp; omega) | (simp_all; done) | (simp_all; omega))]) | (rw [if_neg (by first | omega | (simp; done) | (simp; omega) | (simp_all; done) | (simp_all; omega))]))
                · go_enter Tryd.func11, Tryd.ntmps11
                  go_wp2_with (first | (refine wpList_load_mid rfl _ _ rfl w.heap.size 0 rfl M _ (hrg.out _ hbx) Tryd.underlying26 rfl hMi.out ?_) | (refine wpList_load_midg rfl _ _ rfl w.heap.size 0 rfl M _ (hrg.out _ hbx) Tryd.underlying26 rfl hMi.out ?_) | (go_at_call 35; with_reducible refine (kS.out _ hbx).mono ?_; rintro e Wn ⟨rfl, hbn⟩; replace hbx := hbn; clear hbn; clear i0 i1 d0 d1 c0 c1 m0 m1 p0 p1 ti le co fl st bo lt z0 z1 zt; obtain ⟨i0, i1, d0, d1, c0, c1, m0, m1, p0, p1, ti, le, co, fl, st, bo, lt, z0, z1, zt⟩ := hg.out _ hbx) | (go_at_call 36; with_reducible refine (kT.out _ hbx).mono ?_; rintro e Wn ⟨rfl, hbn⟩; replace hbx := hbn; clear hbn; clear i0 i1 d0 d1 c0 c1 m0 m1 p0 p1 ti le co fl st bo lt z0 z1 zt; obtain ⟨i0, i1, d0, d1, c0, c1, m0, m1, p0, p1, ti, le, co, fl, st, bo, lt, z0, z1, zt⟩ := hg.out _ hbx) | (go_at_call 15; with_reducible refine (kE.out _ hbx).mono ?_; rintro e Wn ⟨rfl, hbn⟩; replace hbx := hbn; clear hbn; clear i0 i1 d0 d1 c0 c1 m0 m1 p0 p1 ti le co fl st bo lt z0 z1 zt; obtain ⟨i0, i1, d0, d1, c0, c1, m0, m1, p0, p1, ti, le, co, fl, st, bo, lt, z0, z1, zt⟩ := hg.out _ hbx) | (go_at_call 16; with_reducible refine (k2.out _ hbx).mono ?_; rintro e Wn ⟨rfl, hbn⟩; replace hbx := hbn; clear hbn; clear i0 i1 d0 d1 c0 c1 m0 m1 p0 p1 ti le co fl st bo lt z0 z1 zt; obtain ⟨i0, i1, d0, d1, c0, c1, m0, m1, p0, p1, ti, le, co, fl, st, bo, lt, z0, z1, zt⟩ := hg.out _ hbx) | (go_at_call 16; with_reducible refine (k16.out _ hbx).mono ?_; rintro e Wn ⟨rfl, hbn⟩; replace hbx := hbn; clear hbn; clear i0 i1 d0 d1 c0 c1 m0 m1 p0 p1 ti le co fl st bo lt z0 z1 zt; obtain ⟨i0, i1, d0, d1, c0, c1, m0, m1, p0, p1, ti, le, co, fl, st, bo, lt, z0, z1, zt⟩ := hg.out _ hbx) | (go_at_call 16; with_reducible refine (k32.out _ hbx).mono ?_; rintro e Wn ⟨rfl, hbn⟩; replace hbx := hbn; clear hbn; clear i0 i1 d0 d1 c0 c1 m0 m1 p0 p1 ti le co fl st bo lt z0 z1 zt; obtain ⟨i0, i1, d0, d1, c0, c1, m0, m1, p0, p1, ti, le, co, fl, st, bo, lt, z0, z1, zt⟩ := hg.out _ hbx))
                  all_goals
                    go_ret
                    refine ⟨congrArg (fun v : Int => Ending.returned (.int .i64 v)) ?_, hbx.bel⟩
                    clear hbx hg hrg kS kT kE k2 k16 k32 hV hMi i0 i1 d0 d1 c0 c1 m0 m1 p0 p1 ti le co fl st bo lt z0 z1 zt
                    unfold chkT
                    rw [eT.out, eE.out, e2.out, e16.out, e32.out]
                    clear eT eE e2 e16 e32
                    try replace hf := hf.out
                    try replace hi := hi.out
                    try replace hm := hm.out
                    try replace hs := hs.out
                    try replace hb := hb.out
                    try replace ht0 := ht0.out
                    try replace ht1 := ht1.out
                    try replace hn := hn.out
                    try replace h0 := h0.out
                    try replace g1 := g1.out
                    try replace g2 := g2.out
                    try replace g3 := g3.out
                    try replace g4 := g4.out
                    try replace g5 := g5.out
                    try replace g6 := g6.out
                    try replace g7 := g7.out
                    try replace g8 := g8.out
                    try replace g9 := g9.out
                    try replace g10 := g10.out
                    try replace g11 := g11.out
                    try replace g12 := g12.out
                    try replace g13 := g13.out
                    try replace g14 := g14.out
                    try replace g15 := g15.out
                    try replace g16 := g16.out
                    try replace g17 := g17.out
                    try replace g18 := g18.out
                    repeat' (first | rfl | (rw [if_pos (by first | omega | (simp; done) | (simp; omega) | (simp_all; done) | (simp_all; omega))]) | (rw [if_neg (by first | omega | (simp; done) | (simp; omega) | (simp_all; done) | (simp_all; omega))]))
              · go_enter Tryd.func11, Tryd.ntmps11
                go_wp2_with (first | (refine wpList_load_mid rfl _ _ rfl w.heap.size 0 rfl M _ (hrg.out _ hbx) Tryd.underlying26 rfl hMi.out ?_) | (refine wpList_load_midg rfl _ _ rfl w.heap.size 0 rfl M _ (hrg.out _ hbx) Tryd.underlying26 rfl hMi.out ?_) | (go_at_call 35; with_reducible refine (kS.out _ hbx).mono ?_; rintro e Wn ⟨rfl, hbn⟩; replace hbx := hbn; clear hbn; clear i0 i1 d0 d1 c0 c1 m0 m1 p0 p1 ti le co fl st bo lt z0 z1 zt; obtain ⟨i0, i1, d0, d1, c0, c1, m0, m1, p0, p1, ti, le, co, fl, st, bo, lt, z0, z1, zt⟩ := hg.out _ hbx) | (go_at_call 36; with_reducible refine (kT.out _ hbx).mono ?_; rintro e Wn ⟨rfl, hbn⟩; replace hbx := hbn; clear hbn; clear i0 i1 d0 d1 c0 c1 m0 m1 p0 p1 ti le co fl st bo lt z0 z1 zt; obtain ⟨i0, i1, d0, d1, c0, c1, m0, m1, p0, p1, ti, le, co, fl, st, bo, lt, z0, z1, zt⟩ := hg.out _ hbx) | (go_at_call 15; with_reducible refine (kE.out _ hbx).mono ?_; rintro e Wn ⟨rfl, hbn⟩; replace hbx := hbn; clear hbn; clear i0 i1 d0 d1 c0 c1 m0 m1 p0 p1 ti le co fl st bo lt z0 z1 zt; obtain ⟨i0, i1, d0, d1, c0, c1, m0, m1, p0, p1, ti, le, co, fl, st, bo, lt, z0, z1, zt⟩ := hg.out _ hbx) | (go_at_call 16; with_reducible refine (k2.out _ hbx).mono ?_; rintro e Wn ⟨rfl, hbn⟩; replace hbx := hbn; clear hbn; clear i0 i1 d0 d1 c0 c1 m0 m1 p0 p1 ti le co fl st bo lt z0 z1 zt; obtain ⟨i0, i1, d0, d1, c0, c1, m0, m1, p0, p1, ti, le, co, fl, st, bo, lt, z0, z1, zt⟩ := hg.out _ hbx) | (go_at_call 16; with_reducible refine (k16.out _ hbx).mono ?_; rintro e Wn ⟨rfl, hbn⟩; replace hbx := hbn; clear hbn; clear i0 i1 d0 d1 c0 c1 m0 m1 p0 p1 ti le co fl st bo lt z0 z1 zt; obtain ⟨i0, i1, d0, d1, c0, c1, m0, m1, p0, p1, ti, le, co, fl, st, bo, lt, z0, z1, zt⟩ := hg.out _ hbx) | (go_at_call 16; with_reducible refine (k32.out _ hbx).mono ?_; rintro e Wn ⟨rfl, hbn⟩; replace hbx := hbn; clear hbn; clear i0 i1 d0 d1 c0 c1 m0 m1 p0 p1 ti le co fl st bo lt z0 z1 zt; obtain ⟨i0, i1, d0, d1, c0, c1, m0, m1, p0, p1, ti, le, co, fl, st, bo, lt, z0, z1, zt⟩ := hg.out _ hbx))
                all_goals
                  go_ret
                  refine ⟨congrArg (fun v : Int => Ending.returned (.int .i64 v)) ?_, hbx.bel⟩
                  clear hbx hg hrg kS kT kE k2 k16 k32 hV hMi i0 i1 d0 d1 c0 c1 m0 m1 p0 p1 ti le co fl st bo lt z0 z1 zt
                  unfold chkT
                  rw [eT.out, eE.out, e2.out, e16.out, e32.out]
                  clear eT eE e2 e16 e32
                  try replace hf := hf.out
                  try replace hi := hi.out
                  try replace hm := hm.out
                  try replace hs := hs.out
                  try replace hb := hb.out
                  try replace ht0 := ht0.out
                  try replace ht1 := ht1.out
                  try replace hn := hn.out
                  try replace h0 := h0.out
                  try replace g1 := g1.out
                  try replace g2 := g2.out
                  try replace g3 := g3.out
                  try replace g4 := g4.out
                  try replace g5 := g5.out
                  try replace g6 := g6.out
                  try replace g7 := g7.out
                  try replace g8 := g8.out
                  try replace g9 := g9.out
                  try replace g10 := g10.out
                  try replace g11 := g11.out
                  try replace g12 := g12.out
                  try replace g13 := g13.out
                  try replace g14 := g14.out
                  try replace g15 := g15.out
                  try replace g16 := g16.out
                  try replace g17 := g17.out
                  try replace g18 := g18.out
                  repeat' (first | rfl | (rw [if_pos (by first | omega | (simp; done) | (simp; omega) | (simp_all; done) | (simp_all; omega))]) | (rw [if_neg (by first | omega | (simp; done) | (simp; omega) | (simp_all; done) | (simp_all; omega))]))
            · have g18b : decide (a.Amount = 0) = false := decide_eq_false g18
              replace g18 := Lib.hid g18
              go_enter Tryd.func11, Tryd.ntmps11
              go_wp2_with (first | (refine wpList_load_mid rfl _ _ rfl w.heap.size 0 rfl M _ (hrg.out _ hbx) Tryd.underlying26 rfl hMi.out ?_) | (refine wpList_load_midg rfl _ _ rfl w.heap.size 0 rfl M _ (hrg.out _ hbx) Tryd.underlying26 rfl hMi.out ?_) | (go_at_call 35; with_reducible refine (kS.out _ hbx).mono ?_; rintro e Wn ⟨rfl, hbn⟩; replace hbx := hbn; clear hbn; clear i0 i1 d0 d1 c0 c1 m0 m1 p0 p1 ti le co fl st bo lt z0 z1 zt; obtain ⟨i0, i1, d0, d1, c0, c1, m0, m1, p0, p1, ti, le, co, fl, st, bo, lt, z0, z1, zt⟩ := hg.out _ hbx) | (go_at_call 36; with_reducible refine (kT.out _ hbx).mono ?_; rintro e Wn ⟨rfl, hbn⟩; replace hbx := hbn; clear hbn; clear i0 i1 d0 d1 c0 c1 m0 m1 p0 p1 ti le co fl st bo lt z0 z1 zt; obtain ⟨i0, i1, d0, d1, c0, c1, m0, m1, p0, p1, ti, le, co, fl, st, bo, lt, z0, z1, zt⟩ := hg.out _ hbx) | (go_at_call 15; with_reducible refine (kE.out _ hbx).mono ?_; rintro e Wn ⟨rfl, hbn⟩; replace hbx := hbn; clear hbn; clear i0 i1 d0 d1 c0 c1 m0 m1 p0 p1 ti le co fl st bo lt z0 z1 zt; obtain ⟨i0, i1, d0, d1, c0, c1, m0, m1, p0, p1, ti, le, co, fl, st, bo, lt, z0, z1, zt⟩ := hg.out _ hbx) | (go_at_call 16; with_reducible refine (k2.out _ hbx).mono ?_; rintro e Wn ⟨rfl, hbn⟩; replace hbx := hbn; clear hbn; clear i0 i1 d0 d1 c0 c1 m0 m1 p0 p1 ti le co fl st bo lt z0 z1 zt; obtain ⟨i0, i1, d0, d1, c0, c1, m0, m1, p0, p1, ti, le, co, fl, st, bo, lt, z0, z1, zt⟩ := hg.out _ hbx) | (go_at_call 16; with_reducible refine (k16.out _ hbx).mono ?_; rintro e Wn ⟨rfl, hbn⟩; replace hbx := hbn; clear hbn; clear i0 i1 d0 d1 c0 c1 m0 m1 p0 p1 ti le co fl st bo lt z0 z1 zt; obtain ⟨i0, i1, d0, d1, c0, c1, m0, m1, p0, p1, ti, le, co, fl, st, bo, lt, z0, z1, zt⟩ := hg.out _ hbx) | (go_at_call 16; with_reducible refine (k32.out _ hbx).mono ?_; rintro e Wn ⟨rfl, hbn⟩; replace hbx := hbn; clear hbn; clear i0 i1 d0 d1 c0 c1 m0 m1 p0 p1 ti le co fl st bo lt z0 z1 zt; obtain ⟨i0, i1, d0, d1, c0, c1, m0, m1, p0, p1, ti, le, co, fl, st, bo, lt, z0, z1, zt⟩ := hg.out _ hbx))
              all_goals
                go_ret
                refine ⟨congrArg (fun v : Int => Ending.returned (.int .i64 v)) ?_, hbx.bel⟩
                clear hbx hg hrg kS kT kE k2 k16 k32 hV hMi i0 i1 d0 d1 c0 c1 m0 m1 p0 p1 ti le co fl st bo lt z0 z1 zt
                unfold chkT
                rw [eT.out, eE.out, e2.out, e16.out, e32.out]
                clear eT eE e2 e16 e32
                try replace hf := hf.out
                try replace hi := hi.out
                try replace hm := hm.out
                try replace hs := hs.out
                try replace hb := hb.out
                try replace ht0 := ht0.out
                try replace ht1 := ht1.out
                try replace hn := hn.out
                try replace h0 := h0.out
                try replace g1 := g1.out
                try replace g2 := g2.out
                try replace g3 := g3.out
                try replace g4 := g4.out
                try replace g5 := g5.out
                try replace g6 := g6.out
                try replace g7 := g7.out
                try replace g8 := g8.out
                try replace g9 := g9.out
                try replace g10 := g10.out
                try replace g11 := g11.out
                try replace g12 := g12.out
                try replace g13 := g13.out
                try replace g14 := g14.out
                try replace g15 := g15.out
                try replace g16 := g16.out
                try replace g17 := g17.out
                try replace g18 := g18.out
                repeat' (first | rfl | (rw [if_pos (by first | omega | (simp; done) | (simp; omega) | (simp_all; done) | (simp_all; omega))]) | (rw [if_neg (by first | omega | (simp; done) | (simp; omega) | (simp_all; done) | (simp_all; omega))]))
          · have g17b : decide (a.Pending = 0) = false := decide_eq_false g17
            replace g17 := Lib.hid g17
            go_enter Tryd.func11, Tryd.ntmps11
            go_wp2_with (first | (refine wpList_load_mid rfl _ _ rfl w.heap.size 0 rfl M _ (hrg.out _ hbx) Tryd.underlying26 rfl hMi.out ?_) | (refine wpList_load_midg rfl _ _ rfl w.heap.size 0 rfl M _ (hrg.out _ hbx) Tryd.underlying26 rfl hMi.out ?_) | (go_at_call 35; with_reducible refine (kS.out _ hbx).mono ?_; rintro e Wn ⟨rfl, hbn⟩; replace hbx := hbn; clear hbn; clear i0 i1 d0 d1 c0 c1 m0 m1 p0 p1 ti le co fl st bo lt z0 z1 zt; obtain ⟨i0, i1, d0, d1, c0, c1, m0, m1, p0, p1, ti, le, co, fl, st, bo, lt, z0, z1, zt⟩ := hg.out _ hbx) | (go_at_call 36; with_reducible refine (kT.out _ hbx).mono ?_; rintro e Wn ⟨rfl, hbn⟩; replace hbx := hbn; clear hbn; clear i0 i1 d0 d1 c0 c1 m0 m1 p0 p1 ti le co fl st bo lt z0 z1 zt; obtain ⟨i0, i1, d0, d1, c0, c1, m0, m1, p0, p1, ti, le, co, fl, st, bo, lt, z0, z1, zt⟩ := hg.out _ hbx) | (go_at_call 15; with_reducible refine (kE.out _ hbx).mono ?_; rintro e Wn ⟨rfl, hbn⟩; replace hbx := hbn; clear hbn; clear i0 i1 d0 d1 c0 c1 m0 m1 p0 p1 ti le co fl st bo lt z0 z1 zt; obtain ⟨i0, i1, d0, d1, c0, c1, m0, m1, p0, p1, ti, le, co, fl, st, bo, lt, z0, z1, zt⟩ := hg.out _ hbx) | (go_at_call 16; with_reducible refine (k2.out _ hbx).mono ?_; rintro e Wn ⟨rfl, hbn⟩; replace hbx := hbn; clear hbn; clear i0 i1 d0 d1 c0 c1 m0 m1 p0 p1 ti le co fl st bo lt z0 z1 zt; obtain ⟨i0, i1, d0, d1, c0, c1, m0, m1, p0, p1, ti, le, co, fl, st, bo, lt, z0, z1, zt⟩ := hg.out _ hbx) | (go_at_call 16; with_reducible refine (k16.out _ hbx).mono ?_; rintro e Wn ⟨rfl, hbn⟩; replace hbx := hbn; clear hbn; clear i0 i1 d0 d1 c0 c1 m0 m1 p0 p1 ti le co fl st bo lt z0 z1 zt; obtain ⟨i0, i1, d0, d1, c0, c1, m0, m1, p0, p1, ti, le, co, fl, st, bo, lt, z0, z1, zt⟩ := hg.out _ hbx) | (go_at_call 16; with_reducible refine (k32.out _ hbx).mono ?_; rintro e Wn ⟨rfl, hbn⟩; replace hbx := hbn; clear hbn; clear i0 i1 d0 d1 c0 c1 m0 m1 p0 p1 ti le co fl st bo lt z0 z1 zt; obtain ⟨i0, i1, d0, d1, c0, c1, m0, m1, p0, p1, ti, le, co, fl, st, bo, lt, z0, z1, zt⟩ := hg.out _ hbx))
            all_goals
              go_ret
              refine ⟨congrArg (fun v : Int => Ending.returned (.int .i64 v)) ?_, hbx.bel⟩
              clear hbx hg hrg kS kT kE k2 k16 k32 hV hMi i0 i1 d0 d1 c0 c1 m0 m1 p0 p1 ti le co fl st bo lt z0 z1 zt
              unfold chkT
              rw [eT.out, eE.out, e2.out, e16.out, e32.out]
              clear eT eE e2 e16 e32
              try replace hf := hf.out
              try replace hi := hi.out
              try replace hm := hm.out
              try replace hs := hs.out
              try replace hb := hb.out
              try replace ht0 := ht0.out
              try replace ht1 := ht1.out
              try replace hn := hn.out
              try replace h0 := h0.out
              try replace g1 := g1.out
              try replace g2 := g2.out
              try replace g3 := g3.out
              try replace g4 := g4.out
              try replace g5 := g5.out
              try replace g6 := g6.out
              try replace g7 := g7.out
              try replace g8 := g8.out
              try replace g9 := g9.out
              try replace g10 := g10.out
              try replace g11 := g11.out
              try replace g12 := g12.out
              try replace g13 := g13.out
              try replace g14 := g14.out
              try replace g15 := g15.out
              try replace g16 := g16.out
              try replace g17 := g17.out
              try replace g18 := g18.out
              repeat' (first | rfl | (rw [if_pos (by first | omega | (simp; done) | (simp; omega) | (simp_all; done) | (simp_all; omega))]) | (rw [if_neg (by first | omega | (simp; done) | (simp; omega) | (simp_all; done) | (simp_all; omega))]))
  · by_cases g19 : a.Pending = 0
    · have g19b : decide (a.Pending = 0) = true := decide_eq_true g19
      replace g19 := Lib.hid g19
      go_enter Tryd.func11, Tryd.ntmps11
      go_wp2_with (first | (refine wpList_load_mid rfl _ _ rfl w.heap.size 0 rfl M _ (hrg.out _ hbx) Tryd.underlying26 rfl hMi.out ?_) | (refine wpList_load_midg rfl _ _ rfl w.heap.size 0 rfl M _ (hrg.out _ hbx) Tryd.underlying26 rfl hMi.out ?_) | (go_at_call 35; with_reducible refine (kS.out _ hbx).mono ?_; rintro e Wn ⟨rfl, hbn⟩; replace hbx := hbn; clear hbn; clear i0 i1 d0 d1 c0 c1 m0 m1 p0 p1 ti le co fl st bo lt z0 z1 zt; obtain ⟨i0, i1, d0, d1, c0, c1, m0, m1, p0, p1, ti, le, co, fl, st, bo, lt, z0, z1, zt⟩ := hg.out _ hbx) | (go_at_call 36; with_reducible refine (kT.out _ hbx).mono ?_; rintro e Wn ⟨rfl, hbn⟩; replace hbx := hbn; clear hbn; clear i0 i1 d0 d1 c0 c1 m0 m1 p0 p1 ti le co fl st bo lt z0 z1 zt; obtain ⟨i0, i1, d0, d1, c0, c1, m0, m1, p0, p1, ti, le, co, fl, st, bo, lt, z0, z1, zt⟩ := hg.out _ hbx) | (go_at_call 15; with_reducible refine (kE.out _ hbx).mono ?_; rintro e Wn ⟨rfl, hbn⟩; replace hbx := hbn; clear hbn; clear i0 i1 d0 d1 c0 c1 m0 m1 p0 p1 ti le co fl st bo lt z0 z1 zt; obtain ⟨i0, i1, d0, d1, c0, c1, m0, m1, p0, p1, ti, le, co, fl, st, bo, lt, z0, z1, zt⟩ := hg.out _ hbx) | (go_at_call 16; with_reducible refine (k2.out _ hbx).mono ?_; rintro e Wn ⟨rfl, hbn⟩; replace hbx := hbn; clear hbn; clear i0 i1 d0 d1 c0 c1 m0 m1 p0 p1 ti le co fl st bo lt z0 z1 zt; obtain ⟨i0, i1, d0, d1, c0, c1, m0, m1, p0, p1, ti, le, co, fl, st, bo, lt, z0, z1, zt⟩ := hg.out _ hbx) | (go_at_call 16; with_reducible refine (k16.out _ hbx).mono ?_; rintro e Wn ⟨rfl, hbn⟩; replace hbx := hbn; clear hbn; clear i0 i1 d0 d1 c0 c1 m0 m1 p0 p1 ti le co fl st bo lt z0 z1 zt; obtain ⟨i0, i1, d0, d1, c0, c1, m0, m1, p0, p1, ti, le, co, fl, st, bo, lt, z0, z1, zt⟩ := hg.out _ hbx) | (go_at_call 16; with_reducible refine (k32.out _ hbx).mono ?_; rintro e Wn ⟨rfl, hbn⟩; replace hbx := hbn; clear hbn; clear i0 i1 d0 d1 c0 c1 m0 m1 p0 p1 ti le co fl st bo lt z0 z1 zt; obtain ⟨i0, i1, d0, d1, c0, c1, m0, m1, p0, p1, ti, le, co, fl, st, bo, lt, z0, z1, zt⟩ := hg.out _ hbx))
      all_goals
        go_ret
        refine ⟨congrArg (fun v : Int => Ending.returned (.int .i64 v)) ?_, hbx.bel⟩
        clear hbx hg hrg kS kT kE k2 k16 k32 hV hMi i0 i1 d0 d1 c0 c1 m0 m1 p0 p1 ti le co fl st bo lt z0 z1 zt
        unfold chkT
        rw [eT.out, eE.out, e2.out, e16.out, e32.out]
        clear eT eE e2 e16 e32
        try replace hf := hf.out
        try replace hi := hi.out
        try replace hm := hm.out
        try replace hs := hs.out
        try replace hb := hb.out
        try replace ht0 := ht0.out
        try replace ht1 := ht1.out
        try replace hn := hn.out
        try replace h0 := h0.out
        try replace g1 := g1.out
        try replace g2 := g2.out
        try replace g3 := g3.out
        try replace g4 := g4.out
        try replace g5 := g5.out
        try replace g6 := g6.out
        try replace g7 := g7.out
        try replace g8 := g8.out
        try replace g9 := g9.out
        try replace g10 := g10.out
        try replace g11 := g11.out
        try replace g12 := g12.out
        try replace g13 := g13.out
        try replace g14 := g14.out
        try replace g15 := g15.out
        try replace g16 := g16.out
        try replace g17 := g17.out
        try replace g18 := g18.out
        try replace g19 := g19.out
        repeat' (first | rfl | (rw [if_pos (by first | omega | (simp; done) | (simp; omega) | (simp_all; done) | (simp_all; omega))]) | (rw [if_neg (by first | omega | (simp; done) | (simp; omega) | (simp_all; done) | (simp_all; omega))]))
    · have g19b : decide (a.Pending = 0) = false := decide_eq_false g19
      replace g19 := Lib.hid g19
      go_enter Tryd.func11, Tryd.ntmps11
      go_wp2_with (first | (refine wpList_load_mid rfl _ _ rfl w.heap.size 0 rfl M _ (hrg.out _ hbx) Tryd.underlying26 rfl hMi.out ?_) | (refine wpList_load_midg rfl _ _ rfl w.heap.size 0 rfl M _ (hrg.out _ hbx) Tryd.underlying26 rfl hMi.out ?_) | (go_at_call 35; with_reducible refine (kS.out _ hbx).mono ?_; rintro e Wn ⟨rfl, hbn⟩; replace hbx := hbn; clear hbn; clear i0 i1 d0 d1 c0 c1 m0 m1 p0 p1 ti le co fl st bo lt z0 z1 zt; obtain ⟨i0, i1, d0, d1, c0, c1, m0, m1, p0, p1, ti, le, co, fl, st, bo, lt, z0, z1, zt⟩ := hg.out _ hbx) | (go_at_call 36; with_reducible refine (kT.out _ hbx).mono ?_; rintro e Wn ⟨rfl, hbn⟩; replace hbx := hbn; clear hbn; clear i0 i1 d0 d1 c0 c1 m0 m1 p0 p1 ti le co fl st bo lt z0 z1 zt; obtain ⟨i0, i1, d0, d1, c0, c1, m0, m1, p0, p1, ti, le, co, fl, st, bo, lt, z0, z1, zt⟩ := hg.out _ hbx) | (go_at_call 15; with_reducible refine (kE.out _ hbx).mono ?_; rintro e Wn ⟨rfl, hbn⟩; replace hbx := hbn; clear hbn; clear i0 i1 d0 d1 c0 c1 m0 m1 p0 p1 ti le co fl st bo lt z0 z1 zt; obtain ⟨i0, i1, d0, d1, c0, c1, m0, m1, p0, p1, ti, le, co, fl, st, bo, lt, z0, z1, zt⟩ := hg.out _ hbx) | (go_at_call 16; with_reducible refine (k2.out _ hbx).mono ?_; rintro e Wn ⟨rfl, hbn⟩; replace hbx := hbn; clear hbn; clear i0 i1 d0 d1 c0 c1 m0 m1 p0 p1 ti le co fl st bo lt z0 z1 zt; obtain ⟨i0, i1, d0, d1, c0, c1, m0, m1, p0, p1, ti, le, co, fl, st, bo, lt, z0, z1, zt⟩ := hg.out _ hbx) | (go_at_call 16; with_reducible refine (k16.out _ hbx).mono ?_; rintro e Wn ⟨rfl, hbn⟩; replace hbx := hbn; clear hbn; clear i0 i1 d0 d1 c0 c1 m0 m1 p0 p1 ti le co fl st bo lt z0 z1 zt; obtain ⟨i0, i1, d0, d1, c0, c1, m0, m1, p0, p1, ti, le, co, fl, st, bo, lt, z0, z1, zt⟩ := hg.out _ hbx) | (go_at_call 16; with_reducible refine (k32.out _ hbx).mono ?_; rintro e Wn ⟨rfl, hbn⟩; replace hbx := hbn; clear hbn; clear i0 i1 d0 d1 c0 c1 m0 m1 p0 p1 ti le co fl st bo lt z0 z1 zt; obtain ⟨i0, i1, d0, d1, c0, c1, m0, m1, p0, p1, ti, le, co, fl, st, bo, lt, z0, z1, zt⟩ := hg.out _ hbx))
      all_goals
        go_ret
        refine ⟨congrArg (fun v : Int => Ending.returned (.int .i64 v)) ?_, hbx.bel⟩
        clear hbx hg hrg kS kT kE k2 k16 k32 hV hMi i0 i1 d0 d1 c0 c1 m0 m1 p0 p1 ti le co fl st bo lt z0 z1 zt
        unfold chkT
        rw [eT.out, eE.out, e2.out, e16.out, e32.out]
        clear eT eE e2 e16 e32
        try replace hf := hf.out
        try replace hi := hi.out
        try replace hm := hm.out
        try replace hs := hs.out
        try replace hb := hb.out
        try replace ht0 := ht0.out
        try replace ht1 := ht1.out
        try replace hn := hn.out
        try replace h0 := h0.out
        try replace g1 := g1.out
        try replace g2 := g2.out
        try replace g3 := g3.out
        try replace g4 := g4.out
        try replace g5 := g5.out
        try replace g6 := g6.out
        try replace g7 := g7.out
        try replace g8 := g8.out
        try replace g9 := g9.out
        try replace g10 := g10.out
        try replace g11 := g11.out
        try replace g12 := g12.out
        try replace g13 := g13.out
        try replace g14 := g14.out
        try replace g15 := g15.out
        try replace g16 := g16.out
        try replace g17 := g17.out
        try replace g18 := g18.out
        try replace g19 := g19.out
        repeat' (first | rfl | (rw [if_pos (by first | omega | (simp; done) | (simp; omega) | (simp_all; done) | (simp_all; omega))]) | (rw [if_neg (by first | omega | (simp; done) | (simp; omega) | (simp_all; done) | (simp_all; omega))]))
set_option maxRecDepth 100000 in
set_option maxHeartbeats 1000000 in
theorem refcheckT_low (a : Tran) (h0 : a.Flags < 0) (w : World) : Calls Tryd.prog 11 #[tranV a] w fun e w' => e = .returned (.int .i64 (chkT a)) ∧ Below w.heap.size w w' := by
  have hc : chkT a = 3 := by unfold chkT; rw [if_pos (.inl h0)]
  rw [hc, tranV_eq]
  go_enter Tryd.func11, Tryd.ntmps11
  go_wp2
  go_ret
  exact ⟨rfl, ((Below.refl _ _).alloc (Nat.le_refl _) _).alloc (by simp) _⟩
theorem refcheckT_any (a : Tran) (ha : a.Wf) (w : World) : Calls Tryd.prog 11 #[tranV a] w fun e w' => e = .returned (.int .i64 (chkT a)) ∧ Below w.heap.size w w' := by
  by_cases h0 : a.Flags < 0
  · exact refcheckT_low a h0 w
  · by_cases hn : a.Flags ≤ 255 ∧ ¬ a.Id = 0 ∧ ¬ a.Id = mostN ∧ togB a.Flags = true ∧ a.Stamp = 0 ∧ a.Born = 0 ∧ 0 ≤ a.Timeout ∧ a.Timeout ≤ 1073741824 ∧ ¬ (0 < a.Timeout ∧ bitZ a.Flags 2 = false)
    · obtain ⟨h1, h2, h3, h4, h5, h6, h7, h8, h9⟩ := hn
      by_cases ht : 0 < a.Timeout
      · refine refcheckT_time a ha (by omega) h1 h2 h3 h4 h5 h6 h7 h8 ht ?_ w
        cases hb : bitZ a.Flags 2
        · exact absurd ⟨ht, hb⟩ h9
        · rfl
      · exact refcheckT_none a ha (by omega) h1 h2 h3 h4 h5 h6 h7 h8 ht w
    · refine refcheckT_early a ha (by omega) (fun h1 h2 h3 h4 h5 h6 h7 h8 => ?_) w
      by_cases h9 : 0 < a.Timeout ∧ bitZ a.Flags 2 = false
      · exact h9
      · exact absurd ⟨h1, h2, h3, h4, h5, h6, h7, h8, h9⟩ hn
end Go.Proofs.YtlalkfebedjlgaaDoor
