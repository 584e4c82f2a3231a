/- Stage 10: the document's kinds walked. No condition. -/
import Derived.Test.YtlalkfebedjlgaaDoorZXb
namespace Go.Proofs.YtlalkfebedjlgaaDoor
open Go.RowKit Go.Sort Wm Cr
attribute [local go_sem high] run_eql_num run_neq_num run_eql_num0 run_neq_num0

set_option maxRecDepth 100000 in
set_option maxHeartbeats 1000000 in
theorem refends_any (a : Tran) (w : World) (ha : a.Wf) (h0 : 0 ≤ a.Flags) : Calls Tryd.prog 15 #[tranV a] w fun e w' => e = .returned (.bool (endsB a.Flags)) ∧ Below w.heap.size w w' := by
  have k4 := Lib.hid (fun W (h : Hx (fun _ => True) w W [(w.heap.size, a.cells)]) => h.ask (fun _ _ _ _ => trivial) (refhas_any a 4 W ha h0 (by decide) (by decide)))
  have k8 := Lib.hid (fun W (h : Hx (fun _ => True) w W [(w.heap.size, a.cells)]) => h.ask (fun _ _ _ _ => trivial) (refhas_any a 8 W ha h0 (by decide) (by decide)))
  have hbx := (Hx.refl (Mo := fun _ => True) (w := w) trivial).new (fun _ _ _ _ => trivial) a.cells 26
  have hg := Lib.hid (fun W (h : Hx (fun _ => True) w W [(w.heap.size, a.cells)]) => show W.cell? ⟨w.heap.size, 13, none⟩ = some (.int .i64 a.Flags) ∧ w.heap.size < W.heap.size ∧ True from ⟨(h.box _ (List.mem_cons_self ..)).spot 13 _ rfl, (h.box _ (List.mem_cons_self ..)).lt, trivial⟩)
  have hrg := Lib.hid (fun W (h : Hx (fun _ => True) w W [(w.heap.size, a.cells)]) => show W.rangeAt w.heap.size 0 a.cells from fun j v hj => by rw [Nat.zero_add]; exact (h.box _ (List.mem_cons_self ..)).spot j v hj)
  have hMi := Lib.hid (show (Tryd.prog.info? 26).map (·.size) = some a.cells.length by rw [Tran.cells_length]; kernel_rfl)
  have hV : tranV a = .agg a.cells.toArray := rfl
  generalize a.cells = M at *
  obtain ⟨zf, zb, -⟩ := hg.out _ hbx
  rw [hV] at k4 k8
  rw [hV]
  have he := Lib.hid (show endsB a.Flags = (bitZ a.Flags 4 || bitZ a.Flags 8) from rfl)
  generalize bitZ a.Flags 4 = b4 at *
  generalize bitZ a.Flags 8 = b8 at *
  clear ha h0
  cases b4
  · go_enter Tryd.func15, Tryd.ntmps15
    go_wp2_with (first | (refine wpList_load_midg rfl _ _ rfl w.heap.size 0 rfl M _ (hrg.out _ hbx) Tryd.underlying26 rfl hMi.out ?_) | (go_at_call 16; with_reducible refine (k4.out _ hbx).mono ?_; rintro e Wn ⟨rfl, hbn⟩; replace hbx := hbn; clear hbn; obtain ⟨zf, zb, -⟩ := hg.out _ hbx) | (go_at_call 16; with_reducible refine (k8.out _ hbx).mono ?_; rintro e Wn ⟨rfl, hbn⟩; replace hbx := hbn; clear hbn; obtain ⟨zf, zb, -⟩ := hg.out _ hbx))
    all_goals
      go_ret
      exact ⟨by rw [he.out]; first | rfl | simp, hbx.bel⟩
  · go_enter Tryd.func15, Tryd.ntmps15
    go_wp2_with (first | (refine wpList_load_midg rfl _ _ rfl w.heap.size 0 rfl M _ (hrg.out _ hbx) Tryd.underlying26 rfl hMi.out ?_) | (go_at_call 16; with_reducible refine (k4.out _ hbx).mono ?_; rintro e Wn ⟨rfl, hbn⟩; replace hbx := hbn; clear hbn; obtain ⟨zf, zb, -⟩ := hg.out _ hbx) | (go_at_call 16; with_reducible refine (k8.out _ hbx).mono ?_; rintro e Wn ⟨rfl, hbn⟩; replace hbx := hbn; clear hbn; obtain ⟨zf, zb, -⟩ := hg.out _ hbx))
    all_goals
      go_ret
      exact ⟨by rw [he.out]; first | rfl | simp, hbx.bel⟩
set_option maxRecDepth 100000 in
set_option maxHeartbeats 1000000 in
theorem reftog_any (a : Tran) (w : World) (ha : a.Wf) (h0 : 0 ≤ a.Flags) : Calls Tryd.prog 36 #[tranV a] w fun e w' => e = .returned (.bool (togB a.Flags)) ∧ Below w.heap.size w w' := by
  have k2 := Lib.hid (fun W (h : Hx (fun _ => True) w W [(w.heap.size, a.cells)]) => h.ask (fun _ _ _ _ => trivial) (refhas_any a 2 W ha h0 (by decide) (by decide)))
  have k4 := Lib.hid (fun W (h : Hx (fun _ => True) w W [(w.heap.size, a.cells)]) => h.ask (fun _ _ _ _ => trivial) (refhas_any a 4 W ha h0 (by decide) (by decide)))
  have k8 := Lib.hid (fun W (h : Hx (fun _ => True) w W [(w.heap.size, a.cells)]) => h.ask (fun _ _ _ _ => trivial) (refhas_any a 8 W ha h0 (by decide) (by decide)))
  have ke := Lib.hid (fun W (h : Hx (fun _ => True) w W [(w.heap.size, a.cells)]) => h.ask (fun _ _ _ _ => trivial) (refends_any a W ha h0))
  have hbx := (Hx.refl (Mo := fun _ => True) (w := w) trivial).new (fun _ _ _ _ => trivial) a.cells 26
  have hg := Lib.hid (fun W (h : Hx (fun _ => True) w W [(w.heap.size, a.cells)]) => show W.cell? ⟨w.heap.size, 13, none⟩ = some (.int .i64 a.Flags) ∧ w.heap.size < W.heap.size ∧ True from ⟨(h.box _ (List.mem_cons_self ..)).spot 13 _ rfl, (h.box _ (List.mem_cons_self ..)).lt, trivial⟩)
  have hrg := Lib.hid (fun W (h : Hx (fun _ => True) w W [(w.heap.size, a.cells)]) => show W.rangeAt w.heap.size 0 a.cells from fun j v hj => by rw [Nat.zero_add]; exact (h.box _ (List.mem_cons_self ..)).spot j v hj)
  have hMi := Lib.hid (show (Tryd.prog.info? 26).map (·.size) = some a.cells.length by rw [Tran.cells_length]; kernel_rfl)
  have hV : tranV a = .agg a.cells.toArray := rfl
  generalize a.cells = M at *
  obtain ⟨zf, zb, -⟩ := hg.out _ hbx
  rw [hV] at k2 k4 k8 ke
  rw [hV]
  unfold togB
  unfold endsB at ke ⊢
  generalize bitZ a.Flags 2 = b2 at *
  generalize bitZ a.Flags 4 = b4 at *
  generalize bitZ a.Flags 8 = b8 at *
  clear ha h0
  have q1 : (decide (a.Flags < 64) = true ∧ a.Flags < 64) ∨ (decide (a.Flags < 64) = false ∧ ¬ a.Flags < 64) := by
    by_cases h : a.Flags < 64
    · exact .inl ⟨decide_eq_true h, h⟩
    · exact .inr ⟨decide_eq_false h, h⟩
  rcases q1 with ⟨q1, q2⟩ | ⟨q1, q2⟩ <;> rw [q1] <;> cases b2 <;> cases b4 <;> cases b8 <;> simp only [Bool.or_true, Bool.or_false, Bool.and_true, Bool.and_false, Bool.true_and, Bool.false_and, Bool.not_true, Bool.not_false] at ke ⊢
  all_goals
    go_enter Tryd.func36, Tryd.ntmps36
    go_wp2_with (first | (refine wpList_load_midg rfl _ _ rfl w.heap.size 0 rfl M _ (hrg.out _ hbx) Tryd.underlying26 rfl hMi.out ?_) | (go_at_call 16; with_reducible refine (k2.out _ hbx).mono ?_; rintro e Wn ⟨rfl, hbn⟩; replace hbx := hbn; clear hbn; obtain ⟨zf, zb, -⟩ := hg.out _ hbx) | (go_at_call 16; with_reducible refine (k4.out _ hbx).mono ?_; rintro e Wn ⟨rfl, hbn⟩; replace hbx := hbn; clear hbn; obtain ⟨zf, zb, -⟩ := hg.out _ hbx) | (go_at_call 16; with_reducible refine (k8.out _ hbx).mono ?_; rintro e Wn ⟨rfl, hbn⟩; replace hbx := hbn; clear hbn; obtain ⟨zf, zb, -⟩ := hg.out _ hbx) | (go_at_call 15; with_reducible refine (ke.out _ hbx).mono ?_; rintro e Wn ⟨rfl, hbn⟩; replace hbx := hbn; clear hbn; obtain ⟨zf, zb, -⟩ := hg.out _ hbx))
    all_goals
      go_ret
      refine ⟨?_, hbx.bel⟩
      first | rfl | (simp; done) | (simp; omega) | (simp [*]; done)
end Go.Proofs.YtlalkfebedjlgaaDoor
