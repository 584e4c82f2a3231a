/- Stage 22: WireReplies' walk. No condition. -/
import Derived.Test.YtfdanlfiaoedfaaZWrc
import Derived.Test.YtfdanlfiaoedfaaZWrd
import Derived.Test.YtfdanlfiaoedfaaZWrf
import Derived.Test.YtfdanlfiaoedfaaZWrg
import Derived.Test.YtfdanlfiaoedfaaZWrh
namespace Go.Proofs.Ytfdanlfiaoedfaa
open Go.RowKit Go.Sort Wm Cr

theorem repB_size (q : Rep) : (repB q).size ≤ 5000 := partsB_size _ (saidP_fits q)
theorem longP_is : longP = ⟨3, [], [], []⟩ := rfl
set_option maxRecDepth 100000 in
set_option maxHeartbeats 8000000 in
theorem wireReplies_yes (p : Rep) (sl : Reps) (hp : p.Wf) (W : World) (hat : RepAt W p sl) (hgr : ¬ 100 < p.Results.length + p.Accounts.length + p.Transfers.length) (hf : fitsP p = true) :
    Calls Try.prog 5 #[repV p sl] W fun e w2 => e = .returned (.bool true) ∧ Below W.heap.size W w2 := by
  have ha := Lib.hid wireAlive_any
  have hal := Lib.hid (fun (W' : World) (hb : Below W.heap.size W W') => hat.later hb)
  have kRp := Lib.hid (fun w h => wireReply_any p sl w h hp)
  have kc := Lib.hid (fun w (h : RowAt Resu.cells 1 w sl.Results p.Results) => codes_any p.Results sl.Results sl.Resultsc w h (by omega))
  have kD := Lib.hid (fun w oR cR (hR : RowAt Resu.cells 1 w oR p.Results) (h : RepAt w p sl) => refReply_any p.Err p.Results p.Accounts p.Transfers oR sl.Accounts sl.Transfers cR sl.Accountsc sl.Transfersc w hR h.Accounts h.Transfers)
  have kF := Lib.hid (fun w oR cR (hR : RowAt Resu.cells 1 w oR p.Results) (h : RepAt w p sl) => refFits_any p.Err p.Results p.Accounts p.Transfers oR sl.Accounts sl.Transfers cR sl.Accountsc sl.Transfersc w hR h.Accounts h.Transfers)
  rw [show (⟨p.Err, p.Results, p.Accounts, p.Transfers⟩ : Rep) = p from rfl] at kD kF
  rw [hf] at kF
  have kRR := Lib.hid (fun w => wireReadReply_any (repB p) (by have := repB_size p; omega) w)
  have hrd := Lib.hid (read_putP p hp)
  have kX := Lib.hid (fun sl2 w h => wireReply_any (saidP p) sl2 w h (saidP_wf hp))
  rw [repB_said] at kX
  rw [saidP_of hf] at hrd kX
  generalize repB p = B at *
  obtain ⟨w1, hw1⟩ : ∃ w1, w1 = W.alloc (.cells (p.cells sl).toArray 43) := ⟨_, rfl⟩
  have hbx := Lib.hid (show BoxAt w1 W.heap.size (p.cells sl) by rw [hw1]; exact BoxAt.new W (p.cells sl) _)
  have hW := Lib.hid (fun w' (hb : Below w1.heap.size w1 w') => (show Below W.heap.size W w' from ((by rw [hw1]; exact (Below.refl _ _).alloc (Nat.le_refl _) _ : Below W.heap.size W w1)).trans (hb.mono (by rw [hw1]; simp))))
  have la := hat.Accountsl
  have lt := hat.Transfersl
  clear hat hp hf
  obtain ⟨er, rs, acs, ts⟩ := p
  obtain ⟨sR, sRc, sA, sAc, sT, sTc⟩ := sl
  unfold repV at kRp
  unfold repV
  unfold Rep.cells at hbx hw1
  dsimp only at *
  have i1 := IntWalk.i64_in (((rs.length : Nat) : Int) + ((acs.length : Nat) : Int)) (by omega)
  have i2 := IntWalk.i64_in (((rs.length : Nat) : Int) + ((acs.length : Nat) : Int) + ((ts.length : Nat) : Int)) (by omega)
  have i3 : decide ((100 : Int) < ((rs.length : Nat) : Int) + ((acs.length : Nat) : Int) + ((ts.length : Nat) : Int)) = false := decide_eq_false (by omega)
  replace hw1 := Lib.hid hw1
  have hb : Below w1.heap.size w1 w1 := Below.refl _ _
  have hcs0 := fun wx (h : BoxAt wx W.heap.size [.int .i64 er, .slice sR rs.length sRc, .slice sA acs.length sAc, .slice sT ts.length sTc]) => (show (fun w' => w'.cell? ⟨W.heap.size, 0, none⟩ = some (.int .i64 er) ∧ w'.cell? ⟨W.heap.size, 1, none⟩ = some (.slice sR rs.length sRc) ∧ w'.cell? ⟨W.heap.size, 2, none⟩ = some (.slice sA acs.length sAc) ∧ w'.cell? ⟨W.heap.size, 3, none⟩ = some (.slice sT ts.length sTc) ∧ W.heap.size < w'.heap.size) wx from ⟨h.spot 0 _ rfl, h.spot 1 _ rfl, h.spot 2 _ rfl, h.spot 3 _ rfl, h.lt⟩)
  try dsimp only at hcs0
  generalize hbP : W.heap.size = bP at hbx hcs0 ⊢
  have hcs := Lib.hid hcs0
  clear hcs0
  go_enter Try.func5, Try.ntmps5
  go_wp2_with fail
  try rw [← hw1.out]
  clear hw1
  try rw [hbP]
  refine (ha.out _).mono ?_
  rintro e w2 ⟨rfl, hbn⟩
  replace hb := hb.trans (hbn.mono hb.size)
  clear hbn ha
  obtain ⟨z0, z1, z2, z3, zl⟩ := hcs.out _ (hbx.out.later hb)
  go_wp2_with fail
  refine (kRp.out _ (hal.out _ (hW.out _ (by first | exact hb | (rw [hbP] at *; exact hb))))).mono ?_
  rintro e w3 ⟨rfl, hbn⟩
  replace hb := hb.trans (hbn.mono hb.size)
  clear hbn kRp i1 i2 i3 z0 z1 z2 z3 zl
  go_wp2_with fail
  have hS := hcs.out _ ((hbx.out.later hb).later (Below.refl _ _).drew)
  try dsimp only at hS
  replace hb := hb.drew
  generalize hw5 : World.drew w3 = w5 at *
  refine wp_region_need (fun _ => True) [0, 1, 3, 6, 8] (by kernel_rfl) ?_
  rw [hw5]
  clear hw5
  refine need_takeL (i := 0) (v := ?cv74) rfl rfl (by kernel_rfl) (by kernel_rfl) (by kernel_rfl) (fun _ _ _ h => h) (Or.inl ⟨by rfl, ?ch74⟩) trivial ?cr74
  case ch74 => (intro w' hSw; (try dsimp only at hSw); go_simp; first | done | with_reducible rfl)
  try simp only [Act.put, List.setIfInBounds_toArray, List.set_cons_zero, List.set_cons_succ]
  refine need_takeL (i := 1) (v := ?cv77) rfl rfl (by kernel_rfl) (by kernel_rfl) (by kernel_rfl) (fun _ _ _ h => h) (Or.inl ⟨by rfl, ?ch77⟩) trivial ?cr77
  case ch77 => (intro w' hSw; (try dsimp only at hSw); go_simp; first | done | with_reducible rfl)
  try simp only [Act.put, List.setIfInBounds_toArray, List.set_cons_zero, List.set_cons_succ]
  refine need_takeL (i := 3) (v := ?cv80) rfl rfl (by kernel_rfl) (by kernel_rfl) (by kernel_rfl) (fun _ _ _ h => h) (Or.inl ⟨by rfl, ?ch80⟩) trivial ?cr80
  case ch80 => (intro w' hSw; (try dsimp only at hSw); go_simp; first | done | with_reducible rfl)
  try simp only [Act.put, List.setIfInBounds_toArray, List.set_cons_zero, List.set_cons_succ]
  refine need_takeL (i := 6) (v := ?cv83) rfl rfl (by kernel_rfl) (by kernel_rfl) (by kernel_rfl) (fun _ _ _ h => h) (Or.inl ⟨by rfl, ?ch83⟩) trivial ?cr83
  case ch83 => (intro w' hSw; (try dsimp only at hSw); go_simp; first | done | with_reducible rfl)
  try simp only [Act.put, List.setIfInBounds_toArray, List.set_cons_zero, List.set_cons_succ]
  refine need_takeL (i := 8) (v := ?cv86) rfl rfl (by kernel_rfl) (by kernel_rfl) (by kernel_rfl) (fun _ _ _ h => h) (Or.inl ⟨by rfl, ?ch86⟩) trivial ?cr86
  case ch86 => (intro w' hSw; (try dsimp only at hSw); go_simp; first | done | with_reducible rfl)
  try simp only [Act.put, List.setIfInBounds_toArray, List.set_cons_zero, List.set_cons_succ]
  refine need_from (S2 := fun w' => w'.cell? ⟨bP, 0, none⟩ = some (.int .i64 er) ∧ w'.cell? ⟨bP, 1, none⟩ = some (.slice sR rs.length sRc) ∧ w'.cell? ⟨bP, 2, none⟩ = some (.slice sA acs.length sAc) ∧ w'.cell? ⟨bP, 3, none⟩ = some (.slice sT ts.length sTc) ∧ bP < w'.heap.size) (need2 := [2, 4, 7, 9]) (fun _ => trivial) _ _ _ _ ?_
  refine need_takeL (i := 2) (v := ?cv90) rfl rfl (by kernel_rfl) (by kernel_rfl) (by kernel_rfl) (fun _ _ _ h => h) (Or.inl ⟨by rfl, ?ch90⟩) hS ?cr90
  case ch90 => (intro w' hSw; (try dsimp only at hSw); go_simp; first | done | with_reducible rfl)
  try simp only [Act.put, List.setIfInBounds_toArray, List.set_cons_zero, List.set_cons_succ]
  refine need_takeL (i := 4) (v := ?cv93) rfl rfl (by kernel_rfl) (by kernel_rfl) (by kernel_rfl) (fun _ _ _ h => h) (Or.inl ⟨by rfl, ?ch93⟩) hS ?cr93
  case ch93 => (intro w' hSw; (try dsimp only at hSw); go_simp; first | done | with_reducible rfl)
  try simp only [Act.put, List.setIfInBounds_toArray, List.set_cons_zero, List.set_cons_succ]
  refine need_takeL (i := 7) (v := ?cv96) rfl rfl (by kernel_rfl) (by kernel_rfl) (by kernel_rfl) (fun _ _ _ h => h) (Or.inl ⟨by rfl, ?ch96⟩) hS ?cr96
  case ch96 => (intro w' hSw; (try dsimp only at hSw); go_simp; first | done | with_reducible rfl)
  try simp only [Act.put, List.setIfInBounds_toArray, List.set_cons_zero, List.set_cons_succ]
  refine need_takeL (i := 9) (v := ?cv99) rfl rfl (by kernel_rfl) (by kernel_rfl) (by kernel_rfl) (fun _ _ _ h => h) (Or.inl ⟨by rfl, ?ch99⟩) hS ?cr99
  case ch99 => (intro w' hSw; (try dsimp only at hSw); go_simp; first | done | with_reducible rfl)
  try simp only [Act.put, List.setIfInBounds_toArray, List.set_cons_zero, List.set_cons_succ]
  clear hS
  refine need_turnL (i := 5) rfl (by kernel_rfl) (by rfl) (fun K' hK' => ?_)
  go_simp
  refine (kc.out _ (hal.out _ (hW.out _ hb)).Results).mono ?_
  rintro e w6 ⟨o2, c2, rfl, hr6, hbn⟩
  replace hb := hb.trans (hbn.mono hb.size)
  clear hbn
  refine hK' _ _ (fun _ => hcs.out _ (hbx.out.later hb)) ?_
  clear hK' K'
  try simp only [Act.put, List.setIfInBounds_toArray, List.set_cons_zero, List.set_cons_succ]
  refine need_turnL (i := 10) rfl (by kernel_rfl) (by rfl) (fun K' hK' => ?_)
  go_simp
  refine (kD.out _ _ _ hr6 (hal.out _ (hW.out _ hb))).mono ?_
  rintro e w7 ⟨rfl, hbn⟩
  replace hb := hb.trans (hbn.mono hb.size)
  clear hbn hr6
  refine hK' _ _ (fun _ => hcs.out _ (hbx.out.later hb)) ?_
  clear hK' K'
  try simp only [Act.put, List.setIfInBounds_toArray, List.set_cons_zero, List.set_cons_succ]
  refine need_turnL (i := 11) rfl (by kernel_rfl) (by rfl) (fun K' hK' => ?_)
  go_simp
  refine hK' _ _ (fun _ => hcs.out _ (hbx.out.later hb)) ?_
  clear hK' K'
  try simp only [Act.put, List.setIfInBounds_toArray, List.set_cons_zero, List.set_cons_succ]
  refine need_done (by kernel_rfl) ?_ _
  clear kD
  go_wp2_with fail
  refine (kRR.out _).mono ?_
  rintro e w8 ⟨hr, hbn⟩
  replace hb := hb.trans (hbn.mono hb.size)
  clear hbn kRR
  rcases hr with ⟨q, xl, h2, rfl, hat2⟩ | ⟨h2, rfl⟩
  case inr => (have := h2.symm.trans hrd.out; cases this)
  obtain rfl := Option.some.inj (h2.symm.trans hrd.out)
  clear h2 hrd
  obtain ⟨xR, xRc, xA, xAc, xT, xTc⟩ := xl
  
  unfold repV
  replace kX := Lib.hid (fun w h => kX.out ⟨xR, xRc, xA, xAc, xT, xTc⟩ w h)
  unfold repV at kX
  dsimp only [List.length_nil] at kX ⊢
  obtain ⟨w9, hw9⟩ : ∃ w9, w9 = w8.alloc (.cells (#[.int .i64 er, .slice xR rs.length xRc, .slice xA acs.length xAc, .slice xT ts.length xTc]) 43) := ⟨_, rfl⟩
  have hb9 : Below w8.heap.size w8 w9 := by rw [hw9]; exact (Below.refl _ _).alloc (Nat.le_refl _) _
  have hbq : BoxAt w9 w8.heap.size ([.int .i64 er, .slice xR rs.length xRc, .slice xA acs.length xAc, .slice xT ts.length xTc]) := by rw [hw9]; exact BoxAt.new w8 ([.int .i64 er, .slice xR rs.length xRc, .slice xA acs.length xAc, .slice xT ts.length xTc]) 43
  replace hw9 := Lib.hid hw9
  replace hbq := Lib.hid hbq
  generalize hbQ : w8.heap.size = bQ at hbq hw9
  go_wp2_with fail
  try rw [hbQ]
  try rw [← hw9.out]
  clear hw9
  replace hb := hb.trans (hb9.mono hb.size)
  have hat3 := hat2.later hb9
  clear hb9 hat2
  refine (kX.out _ hat3).mono ?_
  rintro e w10 ⟨rfl, hbn⟩
  replace hb := hb.trans (hbn.mono hb.size)
  have hat4 := hat3.later hbn
  have hbr := Lib.hid (hbq.out.later hbn)
  clear hbn kX hat3 hbq
  go_wp2_with fail
  have hat5 := hat4.later ((Below.refl _ _).drew)
  have hbr2 := Lib.hid (hbr.out.later ((Below.refl _ _).drew))
  clear hat4 hbr
  have hS := hcs.out _ ((hbx.out.later hb).later (Below.refl _ _).drew)
  try dsimp only at hS
  replace hb := hb.drew
  generalize hw5 : World.drew w10 = w5 at *
  refine wp_region_need (fun _ => True) [0, 2, 5, 7] (by kernel_rfl) ?_
  rw [hw5]
  clear hw5
  refine need_takeL (i := 0) (v := ?cv173) rfl rfl (by kernel_rfl) (by kernel_rfl) (by kernel_rfl) (fun _ _ _ h => h) (Or.inl ⟨by rfl, ?ch173⟩) trivial ?cr173
  case ch173 => (intro w' hSw; (try dsimp only at hSw); go_simp; first | done | with_reducible rfl)
  try simp only [Act.put, List.setIfInBounds_toArray, List.set_cons_zero, List.set_cons_succ]
  refine need_takeL (i := 2) (v := ?cv176) rfl rfl (by kernel_rfl) (by kernel_rfl) (by kernel_rfl) (fun _ _ _ h => h) (Or.inl ⟨by rfl, ?ch176⟩) trivial ?cr176
  case ch176 => (intro w' hSw; (try dsimp only at hSw); go_simp; first | done | with_reducible rfl)
  try simp only [Act.put, List.setIfInBounds_toArray, List.set_cons_zero, List.set_cons_succ]
  refine need_takeL (i := 5) (v := ?cv179) rfl rfl (by kernel_rfl) (by kernel_rfl) (by kernel_rfl) (fun _ _ _ h => h) (Or.inl ⟨by rfl, ?ch179⟩) trivial ?cr179
  case ch179 => (intro w' hSw; (try dsimp only at hSw); go_simp; first | done | with_reducible rfl)
  try simp only [Act.put, List.setIfInBounds_toArray, List.set_cons_zero, List.set_cons_succ]
  refine need_takeL (i := 7) (v := ?cv182) rfl rfl (by kernel_rfl) (by kernel_rfl) (by kernel_rfl) (fun _ _ _ h => h) (Or.inl ⟨by rfl, ?ch182⟩) trivial ?cr182
  case ch182 => (intro w' hSw; (try dsimp only at hSw); go_simp; first | done | with_reducible rfl)
  try simp only [Act.put, List.setIfInBounds_toArray, List.set_cons_zero, List.set_cons_succ]
  refine need_from (S2 := fun w' => w'.cell? ⟨bP, 0, none⟩ = some (.int .i64 er) ∧ w'.cell? ⟨bP, 1, none⟩ = some (.slice sR rs.length sRc) ∧ w'.cell? ⟨bP, 2, none⟩ = some (.slice sA acs.length sAc) ∧ w'.cell? ⟨bP, 3, none⟩ = some (.slice sT ts.length sTc) ∧ bP < w'.heap.size) (need2 := [1, 3, 6, 8]) (fun _ => trivial) _ _ _ _ ?_
  refine need_takeL (i := 1) (v := ?cv186) rfl rfl (by kernel_rfl) (by kernel_rfl) (by kernel_rfl) (fun _ _ _ h => h) (Or.inl ⟨by rfl, ?ch186⟩) hS ?cr186
  case ch186 => (intro w' hSw; (try dsimp only at hSw); go_simp; first | done | with_reducible rfl)
  try simp only [Act.put, List.setIfInBounds_toArray, List.set_cons_zero, List.set_cons_succ]
  refine need_takeL (i := 3) (v := ?cv189) rfl rfl (by kernel_rfl) (by kernel_rfl) (by kernel_rfl) (fun _ _ _ h => h) (Or.inl ⟨by rfl, ?ch189⟩) hS ?cr189
  case ch189 => (intro w' hSw; (try dsimp only at hSw); go_simp; first | done | with_reducible rfl)
  try simp only [Act.put, List.setIfInBounds_toArray, List.set_cons_zero, List.set_cons_succ]
  refine need_takeL (i := 6) (v := ?cv192) rfl rfl (by kernel_rfl) (by kernel_rfl) (by kernel_rfl) (fun _ _ _ h => h) (Or.inl ⟨by rfl, ?ch192⟩) hS ?cr192
  case ch192 => (intro w' hSw; (try dsimp only at hSw); go_simp; first | done | with_reducible rfl)
  try simp only [Act.put, List.setIfInBounds_toArray, List.set_cons_zero, List.set_cons_succ]
  refine need_takeL (i := 8) (v := ?cv195) rfl rfl (by kernel_rfl) (by kernel_rfl) (by kernel_rfl) (fun _ _ _ h => h) (Or.inl ⟨by rfl, ?ch195⟩) hS ?cr195
  case ch195 => (intro w' hSw; (try dsimp only at hSw); go_simp; first | done | with_reducible rfl)
  try simp only [Act.put, List.setIfInBounds_toArray, List.set_cons_zero, List.set_cons_succ]
  clear hS
  refine need_turnL (i := 4) rfl (by kernel_rfl) (by rfl) (fun K' hK' => ?_)
  go_simp
  refine (kc.out _ (hal.out _ (hW.out _ hb)).Results).mono ?_
  rintro e w6 ⟨o2, c2, rfl, hr6, hbn⟩
  replace hb := hb.trans (hbn.mono hb.size)
  replace hat5 := hat5.later hbn
  replace hbr2 := Lib.hid (hbr2.out.later hbn)
  clear hbn
  refine hK' _ _ (fun _ => hcs.out _ (hbx.out.later hb)) ?_
  clear hK' K'
  try simp only [Act.put, List.setIfInBounds_toArray, List.set_cons_zero, List.set_cons_succ]
  refine need_turnL (i := 9) rfl (by kernel_rfl) (by rfl) (fun K' hK' => ?_)
  go_simp
  refine (kF.out _ _ _ hr6 (hal.out _ (hW.out _ hb))).mono ?_
  rintro e w7 ⟨rfl, hbn⟩
  replace hat5 := hat5.later hbn
  replace hbr2 := Lib.hid (hbr2.out.later hbn)
  replace hb := hb.trans (hbn.mono hb.size)
  clear hbn hr6
  refine hK' _ _ (fun _ => hcs.out _ (hbx.out.later hb)) ?_
  clear hK' K'
  try simp only [Act.put, List.setIfInBounds_toArray, List.set_cons_zero, List.set_cons_succ]
  refine need_turnL (i := 10) rfl (by kernel_rfl) (by rfl) (fun K' hK' => ?_)
  go_simp
  refine hK' _ _ (fun _ => hcs.out _ (hbx.out.later hb)) ?_
  clear hK' K'
  try simp only [Act.put, List.setIfInBounds_toArray, List.set_cons_zero, List.set_cons_succ]
  refine need_done (by kernel_rfl) ?_ _
  clear kF kc
  have y0 := hbr2.out.spot 0 _ rfl; have y1 := hbr2.out.spot 1 _ rfl; have y2 := hbr2.out.spot 2 _ rfl; have y3 := hbr2.out.spot 3 _ rfl
  have yl := hbr2.out.lt
  obtain ⟨z0, z1, z2, z3, zl⟩ := hcs.out _ (hbx.out.later hb)
  have hp5 := hal.out _ (hW.out _ hb)
  have kS := Lib.hid (refSame_any acs ts xA sA xT sT xAc sAc xTc sTc _ hat5.Accounts hp5.Accounts hat5.Transfers hp5.Transfers la lt)
  clear hat5 hp5 hbr2
  go_wp2_with fail
  refine kS.out.mono ?_
  rintro e w12 ⟨rfl, hbn⟩
  replace hb := hb.trans (hbn.mono hb.size)
  have hfin := Lib.hid (hW.out _ hb)
  clear hbn kS hb
  go_wp2
  go_ret
  exact ⟨by simp, by first | exact hfin.out | (rw [← hbP]; exact hfin.out)⟩
set_option maxRecDepth 100000 in
set_option maxHeartbeats 8000000 in
theorem wireReplies_no (p : Rep) (sl : Reps) (hp : p.Wf) (W : World) (hat : RepAt W p sl) (hgr : ¬ 100 < p.Results.length + p.Accounts.length + p.Transfers.length) (hf : fitsP p = false) :
    Calls Try.prog 5 #[repV p sl] W fun e w2 => e = .returned (.bool true) ∧ Below W.heap.size W w2 := by
  have ha := Lib.hid wireAlive_any
  have hal := Lib.hid (fun (W' : World) (hb : Below W.heap.size W W') => hat.later hb)
  have kRp := Lib.hid (fun w h => wireReply_any p sl w h hp)
  have kc := Lib.hid (fun w (h : RowAt Resu.cells 1 w sl.Results p.Results) => codes_any p.Results sl.Results sl.Resultsc w h (by omega))
  have kD := Lib.hid (fun w oR cR (hR : RowAt Resu.cells 1 w oR p.Results) (h : RepAt w p sl) => refReply_any p.Err p.Results p.Accounts p.Transfers oR sl.Accounts sl.Transfers cR sl.Accountsc sl.Transfersc w hR h.Accounts h.Transfers)
  have kF := Lib.hid (fun w oR cR (hR : RowAt Resu.cells 1 w oR p.Results) (h : RepAt w p sl) => refFits_any p.Err p.Results p.Accounts p.Transfers oR sl.Accounts sl.Transfers cR sl.Accountsc sl.Transfersc w hR h.Accounts h.Transfers)
  rw [show (⟨p.Err, p.Results, p.Accounts, p.Transfers⟩ : Rep) = p from rfl] at kD kF
  rw [hf] at kF
  have kRR := Lib.hid (fun w => wireReadReply_any (repB p) (by have := repB_size p; omega) w)
  have hrd := Lib.hid (read_putP p hp)
  have kX := Lib.hid (fun sl2 w h => wireReply_any (saidP p) sl2 w h (saidP_wf hp))
  rw [repB_said] at kX
  rw [saidP_not hf] at hrd kX
  generalize repB p = B at *
  obtain ⟨w1, hw1⟩ : ∃ w1, w1 = W.alloc (.cells (p.cells sl).toArray 43) := ⟨_, rfl⟩
  have hbx := Lib.hid (show BoxAt w1 W.heap.size (p.cells sl) by rw [hw1]; exact BoxAt.new W (p.cells sl) _)
  have hW := Lib.hid (fun w' (hb : Below w1.heap.size w1 w') => (show Below W.heap.size W w' from ((by rw [hw1]; exact (Below.refl _ _).alloc (Nat.le_refl _) _ : Below W.heap.size W w1)).trans (hb.mono (by rw [hw1]; simp))))
  have la := hat.Accountsl
  have lt := hat.Transfersl
  clear hat hp hf
  obtain ⟨er, rs, acs, ts⟩ := p
  obtain ⟨sR, sRc, sA, sAc, sT, sTc⟩ := sl
  unfold repV at kRp
  unfold repV
  unfold Rep.cells at hbx hw1
  dsimp only at *
  have i1 := IntWalk.i64_in (((rs.length : Nat) : Int) + ((acs.length : Nat) : Int)) (by omega)
  have i2 := IntWalk.i64_in (((rs.length : Nat) : Int) + ((acs.length : Nat) : Int) + ((ts.length : Nat) : Int)) (by omega)
  have i3 : decide ((100 : Int) < ((rs.length : Nat) : Int) + ((acs.length : Nat) : Int) + ((ts.length : Nat) : Int)) = false := decide_eq_false (by omega)
  replace hw1 := Lib.hid hw1
  have hb : Below w1.heap.size w1 w1 := Below.refl _ _
  have hcs0 := fun wx (h : BoxAt wx W.heap.size [.int .i64 er, .slice sR rs.length sRc, .slice sA acs.length sAc, .slice sT ts.length sTc]) => (show (fun w' => w'.cell? ⟨W.heap.size, 0, none⟩ = some (.int .i64 er) ∧ w'.cell? ⟨W.heap.size, 1, none⟩ = some (.slice sR rs.length sRc) ∧ w'.cell? ⟨W.heap.size, 2, none⟩ = some (.slice sA acs.length sAc) ∧ w'.cell? ⟨W.heap.size, 3, none⟩ = some (.slice sT ts.length sTc) ∧ W.heap.size < w'.heap.size) wx from ⟨h.spot 0 _ rfl, h.spot 1 _ rfl, h.spot 2 _ rfl, h.spot 3 _ rfl, h.lt⟩)
  try dsimp only at hcs0
  generalize hbP : W.heap.size = bP at hbx hcs0 ⊢
  have hcs := Lib.hid hcs0
  clear hcs0
  go_enter Try.func5, Try.ntmps5
  go_wp2_with fail
  try rw [← hw1.out]
  clear hw1
  try rw [hbP]
  refine (ha.out _).mono ?_
  rintro e w2 ⟨rfl, hbn⟩
  replace hb := hb.trans (hbn.mono hb.size)
  clear hbn ha
  obtain ⟨z0, z1, z2, z3, zl⟩ := hcs.out _ (hbx.out.later hb)
  go_wp2_with fail
  refine (kRp.out _ (hal.out _ (hW.out _ (by first | exact hb | (rw [hbP] at *; exact hb))))).mono ?_
  rintro e w3 ⟨rfl, hbn⟩
  replace hb := hb.trans (hbn.mono hb.size)
  clear hbn kRp i1 i2 i3 z0 z1 z2 z3 zl
  go_wp2_with fail
  have hS := hcs.out _ ((hbx.out.later hb).later (Below.refl _ _).drew)
  try dsimp only at hS
  replace hb := hb.drew
  generalize hw5 : World.drew w3 = w5 at *
  refine wp_region_need (fun _ => True) [0, 1, 3, 6, 8] (by kernel_rfl) ?_
  rw [hw5]
  clear hw5
  refine need_takeL (i := 0) (v := ?cv306) rfl rfl (by kernel_rfl) (by kernel_rfl) (by kernel_rfl) (fun _ _ _ h => h) (Or.inl ⟨by rfl, ?ch306⟩) trivial ?cr306
  case ch306 => (intro w' hSw; (try dsimp only at hSw); go_simp; first | done | with_reducible rfl)
  try simp only [Act.put, List.setIfInBounds_toArray, List.set_cons_zero, List.set_cons_succ]
  refine need_takeL (i := 1) (v := ?cv309) rfl rfl (by kernel_rfl) (by kernel_rfl) (by kernel_rfl) (fun _ _ _ h => h) (Or.inl ⟨by rfl, ?ch309⟩) trivial ?cr309
  case ch309 => (intro w' hSw; (try dsimp only at hSw); go_simp; first | done | with_reducible rfl)
  try simp only [Act.put, List.setIfInBounds_toArray, List.set_cons_zero, List.set_cons_succ]
  refine need_takeL (i := 3) (v := ?cv312) rfl rfl (by kernel_rfl) (by kernel_rfl) (by kernel_rfl) (fun _ _ _ h => h) (Or.inl ⟨by rfl, ?ch312⟩) trivial ?cr312
  case ch312 => (intro w' hSw; (try dsimp only at hSw); go_simp; first | done | with_reducible rfl)
  try simp only [Act.put, List.setIfInBounds_toArray, List.set_cons_zero, List.set_cons_succ]
  refine need_takeL (i := 6) (v := ?cv315) rfl rfl (by kernel_rfl) (by kernel_rfl) (by kernel_rfl) (fun _ _ _ h => h) (Or.inl ⟨by rfl, ?ch315⟩) trivial ?cr315
  case ch315 => (intro w' hSw; (try dsimp only at hSw); go_simp; first | done | with_reducible rfl)
  try simp only [Act.put, List.setIfInBounds_toArray, List.set_cons_zero, List.set_cons_succ]
  refine need_takeL (i := 8) (v := ?cv318) rfl rfl (by kernel_rfl) (by kernel_rfl) (by kernel_rfl) (fun _ _ _ h => h) (Or.inl ⟨by rfl, ?ch318⟩) trivial ?cr318
  case ch318 => (intro w' hSw; (try dsimp only at hSw); go_simp; first | done | with_reducible rfl)
  try simp only [Act.put, List.setIfInBounds_toArray, List.set_cons_zero, List.set_cons_succ]
  refine need_from (S2 := fun w' => w'.cell? ⟨bP, 0, none⟩ = some (.int .i64 er) ∧ w'.cell? ⟨bP, 1, none⟩ = some (.slice sR rs.length sRc) ∧ w'.cell? ⟨bP, 2, none⟩ = some (.slice sA acs.length sAc) ∧ w'.cell? ⟨bP, 3, none⟩ = some (.slice sT ts.length sTc) ∧ bP < w'.heap.size) (need2 := [2, 4, 7, 9]) (fun _ => trivial) _ _ _ _ ?_
  refine need_takeL (i := 2) (v := ?cv322) rfl rfl (by kernel_rfl) (by kernel_rfl) (by kernel_rfl) (fun _ _ _ h => h) (Or.inl ⟨by rfl, ?ch322⟩) hS ?cr322
  case ch322 => (intro w' hSw; (try dsimp only at hSw); go_simp; first | done | with_reducible rfl)
  try simp only [Act.put, List.setIfInBounds_toArray, List.set_cons_zero, List.set_cons_succ]
  refine need_takeL (i := 4) (v := ?cv325) rfl rfl (by kernel_rfl) (by kernel_rfl) (by kernel_rfl) (fun _ _ _ h => h) (Or.inl ⟨by rfl, ?ch325⟩) hS ?cr325
  case ch325 => (intro w' hSw; (try dsimp only at hSw); go_simp; first | done | with_reducible rfl)
  try simp only [Act.put, List.setIfInBounds_toArray, List.set_cons_zero, List.set_cons_succ]
  refine need_takeL (i := 7) (v := ?cv328) rfl rfl (by kernel_rfl) (by kernel_rfl) (by kernel_rfl) (fun _ _ _ h => h) (Or.inl ⟨by rfl, ?ch328⟩) hS ?cr328
  case ch328 => (intro w' hSw; (try dsimp only at hSw); go_simp; first | done | with_reducible rfl)
  try simp only [Act.put, List.setIfInBounds_toArray, List.set_cons_zero, List.set_cons_succ]
  refine need_takeL (i := 9) (v := ?cv331) rfl rfl (by kernel_rfl) (by kernel_rfl) (by kernel_rfl) (fun _ _ _ h => h) (Or.inl ⟨by rfl, ?ch331⟩) hS ?cr331
  case ch331 => (intro w' hSw; (try dsimp only at hSw); go_simp; first | done | with_reducible rfl)
  try simp only [Act.put, List.setIfInBounds_toArray, List.set_cons_zero, List.set_cons_succ]
  clear hS
  refine need_turnL (i := 5) rfl (by kernel_rfl) (by rfl) (fun K' hK' => ?_)
  go_simp
  refine (kc.out _ (hal.out _ (hW.out _ hb)).Results).mono ?_
  rintro e w6 ⟨o2, c2, rfl, hr6, hbn⟩
  replace hb := hb.trans (hbn.mono hb.size)
  clear hbn
  refine hK' _ _ (fun _ => hcs.out _ (hbx.out.later hb)) ?_
  clear hK' K'
  try simp only [Act.put, List.setIfInBounds_toArray, List.set_cons_zero, List.set_cons_succ]
  refine need_turnL (i := 10) rfl (by kernel_rfl) (by rfl) (fun K' hK' => ?_)
  go_simp
  refine (kD.out _ _ _ hr6 (hal.out _ (hW.out _ hb))).mono ?_
  rintro e w7 ⟨rfl, hbn⟩
  replace hb := hb.trans (hbn.mono hb.size)
  clear hbn hr6
  refine hK' _ _ (fun _ => hcs.out _ (hbx.out.later hb)) ?_
  clear hK' K'
  try simp only [Act.put, List.setIfInBounds_toArray, List.set_cons_zero, List.set_cons_succ]
  refine need_turnL (i := 11) rfl (by kernel_rfl) (by rfl) (fun K' hK' => ?_)
  go_simp
  refine hK' _ _ (fun _ => hcs.out _ (hbx.out.later hb)) ?_
  clear hK' K'
  try simp only [Act.put, List.setIfInBounds_toArray, List.set_cons_zero, List.set_cons_succ]
  refine need_done (by kernel_rfl) ?_ _
  clear kD
  go_wp2_with fail
  refine (kRR.out _).mono ?_
  rintro e w8 ⟨hr, hbn⟩
  replace hb := hb.trans (hbn.mono hb.size)
  clear hbn kRR
  rcases hr with ⟨q, xl, h2, rfl, hat2⟩ | ⟨h2, rfl⟩
  case inr => (have := h2.symm.trans hrd.out; cases this)
  obtain rfl := Option.some.inj (h2.symm.trans hrd.out)
  clear h2 hrd
  obtain ⟨xR, xRc, xA, xAc, xT, xTc⟩ := xl
  rw [longP_is] at *
  unfold repV
  replace kX := Lib.hid (fun w h => kX.out ⟨xR, xRc, xA, xAc, xT, xTc⟩ w h)
  unfold repV at kX
  dsimp only [List.length_nil] at kX ⊢
  obtain ⟨w9, hw9⟩ : ∃ w9, w9 = w8.alloc (.cells (#[.int .i64 3, .slice xR 0 xRc, .slice xA 0 xAc, .slice xT 0 xTc]) 43) := ⟨_, rfl⟩
  have hb9 : Below w8.heap.size w8 w9 := by rw [hw9]; exact (Below.refl _ _).alloc (Nat.le_refl _) _
  have hbq : BoxAt w9 w8.heap.size ([.int .i64 3, .slice xR 0 xRc, .slice xA 0 xAc, .slice xT 0 xTc]) := by rw [hw9]; exact BoxAt.new w8 ([.int .i64 3, .slice xR 0 xRc, .slice xA 0 xAc, .slice xT 0 xTc]) 43
  replace hw9 := Lib.hid hw9
  replace hbq := Lib.hid hbq
  generalize hbQ : w8.heap.size = bQ at hbq hw9
  go_wp2_with fail
  try rw [hbQ]
  try rw [← hw9.out]
  clear hw9
  replace hb := hb.trans (hb9.mono hb.size)
  have hat3 := hat2.later hb9
  clear hb9 hat2
  refine (kX.out _ hat3).mono ?_
  rintro e w10 ⟨rfl, hbn⟩
  replace hb := hb.trans (hbn.mono hb.size)
  have hat4 := hat3.later hbn
  have hbr := Lib.hid (hbq.out.later hbn)
  clear hbn kX hat3 hbq
  go_wp2_with fail
  have hat5 := hat4.later ((Below.refl _ _).drew)
  have hbr2 := Lib.hid (hbr.out.later ((Below.refl _ _).drew))
  clear hat4 hbr
  have hS := hcs.out _ ((hbx.out.later hb).later (Below.refl _ _).drew)
  try dsimp only at hS
  replace hb := hb.drew
  generalize hw5 : World.drew w10 = w5 at *
  refine wp_region_need (fun _ => True) [0, 2, 5, 7] (by kernel_rfl) ?_
  rw [hw5]
  clear hw5
  refine need_takeL (i := 0) (v := ?cv405) rfl rfl (by kernel_rfl) (by kernel_rfl) (by kernel_rfl) (fun _ _ _ h => h) (Or.inl ⟨by rfl, ?ch405⟩) trivial ?cr405
  case ch405 => (intro w' hSw; (try dsimp only at hSw); go_simp; first | done | with_reducible rfl)
  try simp only [Act.put, List.setIfInBounds_toArray, List.set_cons_zero, List.set_cons_succ]
  refine need_takeL (i := 2) (v := ?cv408) rfl rfl (by kernel_rfl) (by kernel_rfl) (by kernel_rfl) (fun _ _ _ h => h) (Or.inl ⟨by rfl, ?ch408⟩) trivial ?cr408
  case ch408 => (intro w' hSw; (try dsimp only at hSw); go_simp; first | done | with_reducible rfl)
  try simp only [Act.put, List.setIfInBounds_toArray, List.set_cons_zero, List.set_cons_succ]
  refine need_takeL (i := 5) (v := ?cv411) rfl rfl (by kernel_rfl) (by kernel_rfl) (by kernel_rfl) (fun _ _ _ h => h) (Or.inl ⟨by rfl, ?ch411⟩) trivial ?cr411
  case ch411 => (intro w' hSw; (try dsimp only at hSw); go_simp; first | done | with_reducible rfl)
  try simp only [Act.put, List.setIfInBounds_toArray, List.set_cons_zero, List.set_cons_succ]
  refine need_takeL (i := 7) (v := ?cv414) rfl rfl (by kernel_rfl) (by kernel_rfl) (by kernel_rfl) (fun _ _ _ h => h) (Or.inl ⟨by rfl, ?ch414⟩) trivial ?cr414
  case ch414 => (intro w' hSw; (try dsimp only at hSw); go_simp; first | done | with_reducible rfl)
  try simp only [Act.put, List.setIfInBounds_toArray, List.set_cons_zero, List.set_cons_succ]
  refine need_from (S2 := fun w' => w'.cell? ⟨bP, 0, none⟩ = some (.int .i64 er) ∧ w'.cell? ⟨bP, 1, none⟩ = some (.slice sR rs.length sRc) ∧ w'.cell? ⟨bP, 2, none⟩ = some (.slice sA acs.length sAc) ∧ w'.cell? ⟨bP, 3, none⟩ = some (.slice sT ts.length sTc) ∧ bP < w'.heap.size) (need2 := [1, 3, 6, 8]) (fun _ => trivial) _ _ _ _ ?_
  refine need_takeL (i := 1) (v := ?cv418) rfl rfl (by kernel_rfl) (by kernel_rfl) (by kernel_rfl) (fun _ _ _ h => h) (Or.inl ⟨by rfl, ?ch418⟩) hS ?cr418
  case ch418 => (intro w' hSw; (try dsimp only at hSw); go_simp; first | done | with_reducible rfl)
  try simp only [Act.put, List.setIfInBounds_toArray, List.set_cons_zero, List.set_cons_succ]
  refine need_takeL (i := 3) (v := ?cv421) rfl rfl (by kernel_rfl) (by kernel_rfl) (by kernel_rfl) (fun _ _ _ h => h) (Or.inl ⟨by rfl, ?ch421⟩) hS ?cr421
  case ch421 => (intro w' hSw; (try dsimp only at hSw); go_simp; first | done | with_reducible rfl)
  try simp only [Act.put, List.setIfInBounds_toArray, List.set_cons_zero, List.set_cons_succ]
  refine need_takeL (i := 6) (v := ?cv424) rfl rfl (by kernel_rfl) (by kernel_rfl) (by kernel_rfl) (fun _ _ _ h => h) (Or.inl ⟨by rfl, ?ch424⟩) hS ?cr424
  case ch424 => (intro w' hSw; (try dsimp only at hSw); go_simp; first | done | with_reducible rfl)
  try simp only [Act.put, List.setIfInBounds_toArray, List.set_cons_zero, List.set_cons_succ]
  refine need_takeL (i := 8) (v := ?cv427) rfl rfl (by kernel_rfl) (by kernel_rfl) (by kernel_rfl) (fun _ _ _ h => h) (Or.inl ⟨by rfl, ?ch427⟩) hS ?cr427
  case ch427 => (intro w' hSw; (try dsimp only at hSw); go_simp; first | done | with_reducible rfl)
  try simp only [Act.put, List.setIfInBounds_toArray, List.set_cons_zero, List.set_cons_succ]
  clear hS
  refine need_turnL (i := 4) rfl (by kernel_rfl) (by rfl) (fun K' hK' => ?_)
  go_simp
  refine (kc.out _ (hal.out _ (hW.out _ hb)).Results).mono ?_
  rintro e w6 ⟨o2, c2, rfl, hr6, hbn⟩
  replace hb := hb.trans (hbn.mono hb.size)
  replace hat5 := hat5.later hbn
  replace hbr2 := Lib.hid (hbr2.out.later hbn)
  clear hbn
  refine hK' _ _ (fun _ => hcs.out _ (hbx.out.later hb)) ?_
  clear hK' K'
  try simp only [Act.put, List.setIfInBounds_toArray, List.set_cons_zero, List.set_cons_succ]
  refine need_turnL (i := 9) rfl (by kernel_rfl) (by rfl) (fun K' hK' => ?_)
  go_simp
  refine (kF.out _ _ _ hr6 (hal.out _ (hW.out _ hb))).mono ?_
  rintro e w7 ⟨rfl, hbn⟩
  replace hat5 := hat5.later hbn
  replace hbr2 := Lib.hid (hbr2.out.later hbn)
  replace hb := hb.trans (hbn.mono hb.size)
  clear hbn hr6
  refine hK' _ _ (fun _ => hcs.out _ (hbx.out.later hb)) ?_
  clear hK' K'
  try simp only [Act.put, List.setIfInBounds_toArray, List.set_cons_zero, List.set_cons_succ]
  refine need_turnL (i := 10) rfl (by kernel_rfl) (by rfl) (fun K' hK' => ?_)
  go_simp
  refine hK' _ _ (fun _ => hcs.out _ (hbx.out.later hb)) ?_
  clear hK' K'
  try simp only [Act.put, List.setIfInBounds_toArray, List.set_cons_zero, List.set_cons_succ]
  refine need_done (by kernel_rfl) ?_ _
  clear kF kc
  have y0 := hbr2.out.spot 0 _ rfl; have y1 := hbr2.out.spot 1 _ rfl; have y2 := hbr2.out.spot 2 _ rfl; have y3 := hbr2.out.spot 3 _ rfl
  have yl := hbr2.out.lt
  have hfin := Lib.hid (hW.out _ hb)
  clear hat5 hbr2 hb
  go_wp2
  go_ret
  exact ⟨by simp, by first | exact hfin.out | (rw [← hbP]; exact hfin.out)⟩
set_option maxRecDepth 100000 in
set_option maxHeartbeats 4000000 in
theorem wireReplies_great (p : Rep) (sl : Reps) (W : World) (hat : RepAt W p sl) (hgr : 100 < p.Results.length + p.Accounts.length + p.Transfers.length) :
    Calls Try.prog 5 #[repV p sl] W fun e w2 => e = .returned (.bool true) ∧ Below W.heap.size W w2 := by
  have ha := Lib.hid wireAlive_any
  have hz := Lib.hid (fun (cs : Array Value) (t : TypeId) => (Below.refl W.heap.size W).alloc (Nat.le_refl _) (.cells cs t))
  have hbx := BoxAt.new W (p.cells sl) 43
  have l0 := hat.Resultsl
  have la := hat.Accountsl
  have lt := hat.Transfersl
  clear hat
  obtain ⟨er, rs, acs, ts⟩ := p
  obtain ⟨sR, sRc, sA, sAc, sT, sTc⟩ := sl
  unfold repV
  have hcs := Lib.hid (fun wx b (h : BoxAt wx b (Rep.cells ⟨er, rs, acs, ts⟩ ⟨sR, sRc, sA, sAc, sT, sTc⟩)) => h.rep)
  dsimp only at *
  have i1 := IntWalk.i64_in (((rs.length : Nat) : Int) + ((acs.length : Nat) : Int)) (by omega)
  have i2 := IntWalk.i64_in (((rs.length : Nat) : Int) + ((acs.length : Nat) : Int) + ((ts.length : Nat) : Int)) (by omega)
  have i3 : decide ((100 : Int) < ((rs.length : Nat) : Int) + ((acs.length : Nat) : Int) + ((ts.length : Nat) : Int)) = true := decide_eq_true (by omega)
  replace hbx := Lib.hid hbx
  go_enter Try.func5, Try.ntmps5
  go_wp2_with fail
  refine (ha.out _).mono ?_
  rintro e w2 ⟨rfl, hb2⟩
  obtain ⟨z0, z1, z2, z3, zl⟩ := hcs.out _ _ (hbx.out.later hb2)
  try dsimp only at z0 z1 z2 z3 zl
  have hfin := Lib.hid ((hz.out _ _).trans (hb2.mono (hz.out _ _).size))
  clear hb2 hbx hcs
  go_wp2
  go_ret
  exact ⟨rfl, hfin.out⟩
theorem wireReplies_any (p : Rep) (sl : Reps) (hp : p.Wf) (W : World) (hat : RepAt W p sl) :
    Calls Try.prog 5 #[repV p sl] W fun e w2 => e = .returned (.bool true) ∧ Below W.heap.size W w2 := by
  by_cases hgr : 100 < p.Results.length + p.Accounts.length + p.Transfers.length
  · exact wireReplies_great p sl W hat hgr
  cases hf : fitsP p
  · exact wireReplies_no p sl hp W hat hgr hf
  · exact wireReplies_yes p sl hp W hat hgr hf
end Go.Proofs.Ytfdanlfiaoedfaa
