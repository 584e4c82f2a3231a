/- Stage 9: the document's Check; AcctChecks' walk. No condition but the landed package's. -/
import Derived.Test.YtideooaefplbhaaDoorZAb
namespace Go.Proofs.YtideooaefplbhaaDoor
open Go.RowKit Go.Sort Wm Cr
attribute [local go_sem high] run_eql_num run_neq_num run_eql_num0 run_neq_num0

set_option maxRecDepth 100000 in
set_option maxHeartbeats 4000000 in
theorem refcheck_any (a : Acct) (h : a.Wf) (w : World) : Calls Tryd.prog 10 #[acctV a] w fun e w' => e = .returned (.int .i64 (chkA a)) ∧ Below w.heap.size w w' := by
  have hS := Lib.hid (fun W => refshow_any a.Id h.Id W)
  have hB2 := Lib.hid (fun W h0 => refbit_any a.Flags 2 W h0 h.Flags.2 (by decide) (by decide))
  have hB4 := Lib.hid (fun W h0 => refbit_any a.Flags 4 W h0 h.Flags.2 (by decide) (by decide))
  have hsm := show_is_most h.Id
  obtain ⟨hx0, hy0, hb0⟩ := box_two w a.cells [.int .u64 0, .int .u64 0] 26 24
  have hbx := Lib.hid hx0
  have hby := Lib.hid hy0
  obtain ⟨i, p, q, r, s, l, c, f, t⟩ := a
  unfold acctV
  unfold Acct.cells at *
  dsimp only at *
  generalize hc2 : bitZ f 2 = b2 at *
  generalize hc4 : bitZ f 4 = b4 at *
  replace hc2 := Lib.hid hc2
  replace hc4 := Lib.hid hc4
  clear hx0 hy0 h
  go_enter Tryd.func10, Tryd.ntmps10
  go_wp2_with (first | (go_at_call 25; refine (hS.out _).mono ?_; rintro e W1 ⟨rfl, hb1⟩; obtain ⟨z0, z1, z2, z3, z4, z5, z6, z7, z8, z9, z10, z11, z12, z13, z14, -⟩ := (hbx.out.later hb1).acct (a := ⟨i, p, q, r, s, l, c, f, t⟩) trivial; have y0 := (hby.out.later hb1).spot 0 _ rfl; have y1 := (hby.out.later hb1).spot 1 _ rfl; replace hb0 := hb0.trans (hb1.mono hb0.size); clear hb1) | (go_at_call 26; first | (refine (hB2.out _ (by omega)).mono ?_; rintro e W2 ⟨rfl, rfl⟩) | (refine (hB4.out _ (by omega)).mono ?_; rintro e W3 ⟨rfl, rfl⟩)))
  all_goals
    go_ret
    refine ⟨congrArg (fun v : Int => Ending.returned (.int .i64 v)) ?_, hb0⟩
    clear hb0 hbx hby hS hB2 hB4 hsm
    unfold chkA
    dsimp only
    rw [hc2.out, hc4.out]
    clear hc2 hc4
    repeat' (first | rfl | (rw [if_pos (by first | omega | (simp_all; done) | (simp_all; omega))]) | (rw [if_neg (by first | omega | (simp_all; done) | (simp_all; omega))]))
end Go.Proofs.YtideooaefplbhaaDoor
