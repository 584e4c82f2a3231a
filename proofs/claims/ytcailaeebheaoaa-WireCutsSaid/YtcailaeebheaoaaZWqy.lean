/- Stage 22: WireRequests' walk. No condition. -/
import Derived.Test.YtcailaeebheaoaaZWqx
namespace Go.Proofs.Ytcailaeebheaoaa
open Go.RowKit Go.Sort Wm Cr

set_option maxRecDepth 100000 in
set_option maxHeartbeats 2000000 in
theorem wgreat_any (q : Req) (s : Reqs) (W : World) (h : ReqAt W q s) : Calls Try.prog 10 #[reqV q s] W fun e w2 => e = .returned (.bool (decide (100 < q.Accounts.length + q.Transfers.length + q.Ids.length))) ∧ Below W.heap.size W w2 := by
  have hz := Lib.hid (fun (cs : Array Value) (t : TypeId) => (Below.refl W.heap.size W).alloc (Nat.le_refl _) (.cells cs t))
  have b1 := h.Accountsl
  have b2 := h.Transfersl
  have b3 := h.Idsl
  clear h
  obtain ⟨op, acs, ts, now, ids, ⟨ac, fr, tt, db, cr, la, li⟩⟩ := q
  obtain ⟨sA, sAc, sT, sTc, sI, sIc⟩ := s
  unfold reqV
  dsimp only at *
  generalize acs.length = na at *
  generalize ts.length = nt at *
  generalize ids.length = ni at *
  have i1 := IntWalk.i64_in (((na : Nat) : Int) + ((nt : Nat) : Int)) (by omega)
  have i2 := IntWalk.i64_in (((na : Nat) : Int) + ((nt : Nat) : Int) + ((ni : Nat) : Int)) (by omega)
  go_enter Try.func10, Try.ntmps10
  go_wp2
  go_ret
  exact ⟨by refine congrArg (fun b : Bool => Ending.returned (.bool b)) ?_; rw [Bool.eq_iff_iff]; simp; omega, hz.out _ _⟩
set_option maxRecDepth 100000 in
set_option maxHeartbeats 8000000 in
theorem wireRequests_any (q : Req) (sl : Reqs) (hq : q.Wf) (W : World) (hat : ReqAt W q sl) :
    Calls Try.prog 3 #[reqV q sl] W fun e w2 => e = .returned (.bool true) ∧ Below W.heap.size W w2 := by
  have ha := Lib.hid wireAlive_any
  have hal := Lib.hid (fun (W' : World) (hb : Below W.heap.size W W') => hat.later hb)
  have kgr := Lib.hid (fun w h => wgreat_any q sl w h)
  have kg := Lib.hid (fun w h => refGood22_any q sl w h)
  have kl := Lib.hid (fun w h => wireGood_any q sl w h)
  have kby := Lib.hid (fun w h => wireBytes_any q sl w h hq)
  have kdb := Lib.hid (fun hg w h => refBytes22_any q sl w h hg)
  have hrd := Lib.hid (fun hg => read_put q hq hg)
  have hszB := Lib.hid (fun hg => reqB_size q hg)
  have hkg := keepQ_good q
  have hkb := Lib.hid (fun hg => keepQ_bytes q hg)
  have hko := keepQ_op q
  generalize keepQ q = x at *
  have kdx := Lib.hid (fun hg sl2 w h => refBytes22_any x sl2 w h hg)
  generalize reqB x = BX at *
  generalize reqB q = B at *
  generalize goodQ x = gx at *
  generalize goodQ q = gq at *
  obtain ⟨w1, hw1⟩ : ∃ w1, w1 = W.alloc (.cells (q.cells sl).toArray 31) := ⟨_, rfl⟩
  have hbx := Lib.hid (show BoxAt w1 W.heap.size (q.cells sl) by rw [hw1]; exact BoxAt.new W (q.cells sl) _)
  have hW := Lib.hid (fun w' (hb : Below w1.heap.size w1 w') => (show Below W.heap.size W w' from ((by rw [hw1]; exact (Below.refl _ _).alloc (Nat.le_refl _) _ : Below W.heap.size W w1)).trans (hb.mono (by rw [hw1]; simp))))
  have hcs := Lib.hid (fun wx b (h : BoxAt wx b (q.cells sl)) => h.req)
  have hgr : decide (100 < q.Accounts.length + q.Transfers.length + q.Ids.length) = true ∨ decide (100 < q.Accounts.length + q.Transfers.length + q.Ids.length) = false := by cases decide (100 < q.Accounts.length + q.Transfers.length + q.Ids.length) <;> simp
  clear hat hq
  obtain ⟨op, acs, ts, now, ids, ⟨ac, fr, tt, db, cr, la, li⟩⟩ := q
  obtain ⟨sA, sAc, sT, sTc, sI, sIc⟩ := sl
  unfold reqV at kgr kg kl kby kdb
  unfold reqV
  dsimp only at *
  unfold Req.cells at hw1
  generalize decide (100 < acs.length + ts.length + ids.length) = gr at *
  replace hw1 := Lib.hid hw1
  have hb : Below w1.heap.size w1 w1 := Below.refl _ _
  go_enter Try.func3, Try.ntmps3
  go_wp2_with fail
  rw [← hw1.out]
  clear hw1
  obtain ⟨z0, z1, z2, z3, z4, z5, z6, z7, z8, z9, z10, z11, z12, zl⟩ := hcs.out _ _ hbx.out
  try dsimp only at z0 z1 z2 z3 z4 z5 z6 z7 z8 z9 z10 z11 z12 zl
  refine (ha.out _ ).mono ?_
  rintro e w2 ⟨rfl, hbn⟩
  replace hb := hb.trans (hbn.mono hb.size)
  clear z0 z1 z2 z3 z4 z5 z6 z7 z8 z9 z10 z11 z12 zl hbn
  obtain ⟨z0, z1, z2, z3, z4, z5, z6, z7, z8, z9, z10, z11, z12, zl⟩ := hcs.out _ _ (hbx.out.later hb)
  try dsimp only at z0 z1 z2 z3 z4 z5 z6 z7 z8 z9 z10 z11 z12 zl
  go_wp2_with fail
  refine (kgr.out _ (hal.out _ (hW.out _ hb))).mono ?_
  rintro e w3 ⟨rfl, hbn⟩
  replace hb := hb.trans (hbn.mono hb.size)
  clear z0 z1 z2 z3 z4 z5 z6 z7 z8 z9 z10 z11 z12 zl hbn
  obtain ⟨z0, z1, z2, z3, z4, z5, z6, z7, z8, z9, z10, z11, z12, zl⟩ := hcs.out _ _ (hbx.out.later hb)
  try dsimp only at z0 z1 z2 z3 z4 z5 z6 z7 z8 z9 z10 z11 z12 zl
  cases gr with
  | true =>
    have hfin := Lib.hid (hW.out _ hb)
    go_wp2
    go_ret
    exact ⟨rfl, hfin.out⟩
  | false =>
    go_wp2_with fail
    refine (kg.out _ (hal.out _ (hW.out _ hb))).mono ?_
    rintro e w4 ⟨rfl, hbn⟩
    replace hb := hb.trans (hbn.mono hb.size)
    clear z0 z1 z2 z3 z4 z5 z6 z7 z8 z9 z10 z11 z12 zl hbn
    obtain ⟨z0, z1, z2, z3, z4, z5, z6, z7, z8, z9, z10, z11, z12, zl⟩ := hcs.out _ _ (hbx.out.later hb)
    try dsimp only at z0 z1 z2 z3 z4 z5 z6 z7 z8 z9 z10 z11 z12 zl
    go_wp2_with fail
    cases gq with
    | false =>
      have kb1 := kby.out _ (hal.out _ (hW.out _ hb))
      rw [if_neg Bool.false_ne_true] at kb1
      refine kb1.mono ?_
      rintro e w5 ⟨rfl, hbn⟩
      replace hb := hb.trans (hbn.mono hb.size)
      clear kb1 z0 z1 z2 z3 z4 z5 z6 z7 z8 z9 z10 z11 z12 zl hbn
      obtain ⟨z0, z1, z2, z3, z4, z5, z6, z7, z8, z9, z10, z11, z12, zl⟩ := hcs.out _ _ (hbx.out.later hb)
      try dsimp only at z0 z1 z2 z3 z4 z5 z6 z7 z8 z9 z10 z11 z12 zl
      go_wp2_with fail
      refine (kl.out _ (hal.out _ (hW.out _ hb))).mono ?_
      rintro e w6 ⟨rfl, hbn⟩
      replace hb := hb.trans (hbn.mono hb.size)
      have hfin := Lib.hid (hW.out _ hb)
      clear z0 z1 z2 z3 z4 z5 z6 z7 z8 z9 z10 z11 z12 zl hbn
      go_wp2
      go_ret
      exact ⟨by simp, hfin.out⟩
    | true =>
      have kb1 := kby.out _ (hal.out _ (hW.out _ hb))
      rw [if_pos rfl] at kb1
      refine kb1.mono ?_
      rintro e w5 ⟨rfl, hbn⟩
      replace hb := hb.trans (hbn.mono hb.size)
      clear kb1 z0 z1 z2 z3 z4 z5 z6 z7 z8 z9 z10 z11 z12 zl hbn
      obtain ⟨z0, z1, z2, z3, z4, z5, z6, z7, z8, z9, z10, z11, z12, zl⟩ := hcs.out _ _ (hbx.out.later hb)
      try dsimp only at z0 z1 z2 z3 z4 z5 z6 z7 z8 z9 z10 z11 z12 zl
      go_wp2_with fail
      refine (kl.out _ (hal.out _ (hW.out _ hb))).mono ?_
      rintro e w6 ⟨rfl, hbn⟩
      replace hb := hb.trans (hbn.mono hb.size)
      clear z0 z1 z2 z3 z4 z5 z6 z7 z8 z9 z10 z11 z12 zl hbn
      obtain ⟨z0, z1, z2, z3, z4, z5, z6, z7, z8, z9, z10, z11, z12, zl⟩ := hcs.out _ _ (hbx.out.later hb)
      try dsimp only at z0 z1 z2 z3 z4 z5 z6 z7 z8 z9 z10 z11 z12 zl
      have hB : B.size ≤ 1000 := by first | exact hszB.out rfl | exact hszB.out trivial
      have hr1 : readQ B = some x := by first | exact hrd.out rfl | exact hrd.out trivial
      have hBX : BX = B := by first | exact hkb.out rfl | exact hkb.out trivial
      go_wp2_with fail
      refine (wireRead_any B (by omega) _).mono ?_
      rintro e w7 ⟨hr, hbn⟩
      rcases hr with ⟨x', sl2, h2, rfl, hatx⟩ | ⟨h2, -⟩
      · rw [hr1] at h2
        injection h2 with h2
        subst h2
        replace hb := hb.trans (hbn.mono hb.size)
        clear z0 z1 z2 z3 z4 z5 z6 z7 z8 z9 z10 z11 z12 zl hbn hr1
        obtain ⟨z0, z1, z2, z3, z4, z5, z6, z7, z8, z9, z10, z11, z12, zl⟩ := hcs.out _ _ (hbx.out.later hb)
        try dsimp only at z0 z1 z2 z3 z4 z5 z6 z7 z8 z9 z10 z11 z12 zl
        have halx := Lib.hid (fun (W' : World) (hb : Below w7.heap.size w7 W') => hatx.later hb)
        have hbxx := Lib.hid (BoxAt.new w7 (x.cells sl2) 31)
        have hcsx := Lib.hid (fun wx b (h : BoxAt wx b (x.cells sl2)) => h.req)
        replace kdx := Lib.hid (fun hg w h => kdx.out hg sl2 w h)
        clear hatx
        obtain ⟨xop, xa, xt, xn, xi, ⟨xc, xf, xo, xd, xe, xl, xm⟩⟩ := x
        obtain ⟨tA, tAc, tT, tTc, tI, tIc⟩ := sl2
        unfold reqV at kdx
        unfold reqV
        dsimp only at *
        subst hko
        subst hBX
        go_wp2_with fail
        have hbm := (Below.refl w7.heap.size w7).alloc (Nat.le_refl _) (.cells #[.int .i64 xop, .slice tA xa.length tAc, .slice tT xt.length tTc, .int .i64 xn, .slice tI xi.length tIc, .int .u64 ((hiN xc : Nat) : Int), .int .u64 ((loN xc : Nat) : Int), .int .i64 xf, .int .i64 xo, .bool xd, .bool xe, .bool xl, .int .i64 xm] 31)
        have hbk := hb.trans (hbm.mono hb.size)
        refine (kdb.out (by first | exact rfl | exact trivial) _ (hal.out _ (hW.out _ hbk))).mono ?_
        rintro e w9 ⟨rfl, hbn⟩
        replace hbm := hbm.trans (hbn.mono hbm.size)
        replace hb := hbk.trans (hbn.mono hbk.size)
        obtain ⟨u0, u1, u2, u3, u4, u5, u6, u7, u8, u9, u10, u11, u12, ul⟩ := hcsx.out _ _ (hbxx.out.later hbn)
        try dsimp only at u0 u1 u2 u3 u4 u5 u6 u7 u8 u9 u10 u11 u12 ul
        clear z0 z1 z2 z3 z4 z5 z6 z7 z8 z9 z10 z11 z12 zl hbn hbk
        obtain ⟨z0, z1, z2, z3, z4, z5, z6, z7, z8, z9, z10, z11, z12, zl⟩ := hcs.out _ _ (hbx.out.later hb)
        try dsimp only at z0 z1 z2 z3 z4 z5 z6 z7 z8 z9 z10 z11 z12 zl
        go_wp2_with fail
        refine (kdx.out (by first | exact rfl | exact trivial | exact hkg) _ (halx.out _ hbm)).mono ?_
        rintro e w10 ⟨rfl, hbn⟩
        replace hb := hb.trans (hbn.mono hb.size)
        have hfin := Lib.hid (hW.out _ hb)
        clear u0 u1 u2 u3 u4 u5 u6 u7 u8 u9 u10 u11 u12 ul z0 z1 z2 z3 z4 z5 z6 z7 z8 z9 z10 z11 z12 zl hbn hbm
        go_wp2
        go_ret
        exact ⟨by simp, hfin.out⟩
      · rw [hr1] at h2; cases h2
end Go.Proofs.Ytcailaeebheaoaa
