/- The landed table: a name laid into its cell. No condition but sizes. -/
import Derived.Test.YtpopbdladlahjaaEc
namespace Go.Proofs.Ytpopbdladlahjaa
open Go.RowKit Go.Sort Wm

/-- What is known behind it. -/
def LaidPost (W : World) (p g : Nat) (m : Tbl) (k : Nat) (v : Int) (n names used : Nat) (W' : World) : Prop :=
  ∃ (cs' : List Cl) (names' used' : Nat), PtV W' p g cs' names' used' ∧ cs'.length = n ∧ CellsOk startZ cs' (putT m k v) names' used' ∧ used' + names ≤ used + names' ∧ Only (footP p g) W W'
section
variable {W : World} {p g : Nat} {cs : List Cl} {names used : Nat} {m : Tbl}
set_option maxRecDepth 100000 in
set_option maxHeartbeats 4000000 in
theorem tbLay_any (h : PtV W p g cs names used) (hC : CellsOk startZ cs m names used) (hu : used < cs.length) (k : Nat) (hk : k < big) (v : Int) :
    Calls Try.prog 20 #[.pointer (some ⟨p, 0, none⟩), numV k, .int .i64 v] W fun e W' => e = .returned (.bool (!(getT m k).isSome)) ∧ LaidPost W p g m k v cs.length names used W' := by
  have hw0 : Below W.heap.size W (W.alloc (.cells #[.int .u64 ((hiN k : Nat) : Int), .int .u64 ((loN k : Nat) : Int)] 33)) := (Below.refl _ _).alloc (Nat.le_refl _) _
  have hbx := BoxAt.new W [.int .u64 ((hiN k : Nat) : Int), .int .u64 ((loN k : Nat) : Int)] 33
  have hV := h.later hw0
  have hfind := Lib.hid (tbFind_any hV hC.pow hC.kinds k hk)
  have hgz := Lib.hid hC
  have hnp := Lib.hid (h.near)
  have hns := Lib.hid hC.usedLe
  have hnl := Lib.hid hC.namesLe
  have hnc := hC.pos.2
  clear h hC
  obtain ⟨r, hr⟩ : ∃ r, r = !(getT m k).isSome := ⟨_, rfl⟩
  rw [← hr]
  replace hr := Lib.hid hr
  go_enter Try.func20, Try.ntmps20
  generalize hw0e : W.alloc (.cells #[.int .u64 ((hiN k : Nat) : Int), .int .u64 ((loN k : Nat) : Int)] 33) = W0 at *
  have z0 := hbx.spot 0 _ rfl
  have z1 := hbx.spot 1 _ rfl
  have zl := hbx.lt
  go_wp2_with fail
  clear hw0e
  refine (hfind.out).mono ?_
  rintro e w1 ⟨hF, hb1⟩
  replace hV := hV.later hb1
  replace hbx := hbx.later hb1
  have hO1 : Only (footP p g) W w1 := Only.of_below (hw0.trans (hb1.mono hw0.size))
  clear z0 z1 zl hb1 hw0 hfind
  rcases hF with ⟨i, c, rfl, hc, h2, rfl⟩ | ⟨o, j, rfl, hpa, hend, j', hj', hop, ho⟩
  · have hge := hgz.out.isHere hc h2 rfl
    have hr1 := Lib.hid (show r = false by rw [hr.out, hge]; rfl)
    have hi := (List.getElem?_eq_some_iff.1 hc).1
    have hc0 : cs[i]? = some ⟨2, c.name, c.plc⟩ := by rw [hc]; cases c; dsimp only at h2; rw [h2]
    have hfin := Lib.hid (show LaidPost W p g m c.name v cs.length names used (w1.drew.setCells g (i * 4) (cellsK ⟨2, c.name, v⟩)) from
      ⟨_, _, _, hV.drew.putCell hi ⟨2, c.name, v⟩, List.length_set .., hgz.out.move hc0, Nat.le_refl _, Only.setCells (fun _ => .inr rfl) _ _ _ hO1.drew⟩)
    have hth := Lib.hid (hV.drew.there hi)
    have hix := Lib.hid (run_idx_cell g cs.length cs.length i hi)
    have hbr := Lib.hid ((World.rangeAt_drew _ _ _ _).2 (show w1.rangeAt W.heap.size 0 [.int .u64 ((hiN c.name : Nat) : Int), .int .u64 ((loN c.name : Nat) : Int)] from fun j v hv => by rw [Nat.zero_add]; exact hbx.spot j v hv))
    have c0 := hV.c0
    have lp := hV.lp
    clear hV hbx hO1 hgz hge hr hc hc0 h2 hns hnl hnp hi hu
    go_wp2
    refine wp_region_still_tail 9 (by kernel_rfl) (by kernel_rfl) ?_
    simp only [List.take_succ_cons, List.take_zero, List.drop_succ_cons, List.drop_zero]
    change wpStill _ _ w1.drew _ _ _
    iterate 5 still_step
    refine still_loads rfl _ _ rfl W.heap.size 0 rfl [.int .u64 ((hiN c.name : Nat) : Int), .int .u64 ((loN c.name : Nat) : Int)] _ hbr.out Try.underlying33 rfl (by kernel_rfl) ?_
    simp only [Act.put, List.setIfInBounds_toArray, List.set_cons_zero, List.set_cons_succ]
    iterate 2 still_step
    refine still_index rfl _ _ _ rfl (.slice (some ⟨g, 0, none⟩) cs.length cs.length) (.int .i64 (i : Int)) _ rfl rfl (hix.out _) ?_
    simp only [Act.put, List.setIfInBounds_toArray, List.set_cons_zero, List.set_cons_succ]
    refine wpStill_nil ?_
    change wpList _ _ _ _ _ w1.drew
    refine wpList_store_mid rfl _ _ _ rfl g (i * 4) (cellsK ⟨2, c.name, v⟩).toArray rfl rfl hth.out (by kernel_rfl) (all_oneCell_toArray (cellsK_one _)) ?_
    simp only [Act.put]
    change wpList _ _ _ _ _ (w1.drew.setCells g (i * 4) (cellsK ⟨2, c.name, v⟩))
    generalize w1.drew.setCells g (i * 4) (cellsK ⟨2, c.name, v⟩) = W4 at *
    go_wp2
    go_ret
    exact ⟨by rw [hr1.out]; rfl, hfin.out⟩
  · have hgn := hgz.out.notHere hpa hend
    obtain ⟨i, rfl, hfree⟩ := hgz.out.room hu hop hj' ho
    have hr1 := Lib.hid (show r = true by rw [hr.out, hgn]; rfl)
    have hi : i < cs.length := by
      obtain ⟨j0, _, e, _⟩ := hfree
      rw [e]
      exact tbSpot_lt (by omega) _ _
    obtain ⟨c, hc⟩ : ∃ c, cs[i]? = some c := ⟨_, List.getElem?_eq_getElem hi⟩
    have hlay := hgz.out.lay (v := v) hgn hfree hc hk
    have hc2 : c.kind ≠ 2 := by
      obtain ⟨j0, _, e, h2, _⟩ := hfree
      exact h2 c hc
    have hk2 := (hgz.out.kinds c (List.mem_of_getElem? hc)).1
    have hnb := Lib.hid (fun e => Nat.lt_irrefl _ (hnp.out W.heap.size e))
    have hix := Lib.hid (run_idx_cell g cs.length cs.length i hi)
    have hnu : names ≤ 8192 := by have := hnl.out; omega
    clear hr hpa hend hop hj' ho hfree hgn hns hnl hnp
    have hV2 : PtV (w1.setCell ⟨p, 1, none⟩ (.int .i64 ((names : Int) + 1))) p g cs (names + 1) used := hV.put1 (names + 1)
    have hO2 : Only (footP p g) w1 (w1.setCell ⟨p, 1, none⟩ (.int .i64 ((names : Int) + 1))) := (Only.refl _ _).setCell (p := ⟨p, 1, none⟩) (fun _ => .inl rfl) _
    have c1 := hV.c1
    have f1 := hV.fp 1
    have lp := hV.lp
    replace hgz := Lib.hid hgz
    replace hV := Lib.hid hV
    go_upto_region 4 with (fail)
    clear c1 f1 lp hV
    generalize w1.setCell ⟨p, 1, none⟩ (.int .i64 ((names : Int) + 1)) = W2 at *
    have y0 := (hV2.at_ hc).1
    have c0 := hV2.c0
    have c2 := hV2.c2
    have f2 := hV2.fp 2
    have lp := hV2.lp
    have lg := hV2.lg
    obtain ⟨kd, nm, u⟩ := c
    dsimp only at y0 hc2 hk2 hlay
    have hkd : kd = 0 ∨ kd = 1 := by omega
    replace hc := 0
    rcases hkd with rfl | rfl
    · rw [if_pos rfl] at hlay
      replace y0 : W2.cell? ⟨g, i * 4, none⟩ = some (.int .i64 0) := y0
      have hV3 : PtV (W2.setCell ⟨p, 2, none⟩ (.int .i64 ((used : Int) + 1))) p g cs (names + 1) (used + 1) := hV2.put2 (used + 1)
      have hO3' : Only (footP p g) w1 (W2.setCell ⟨p, 2, none⟩ (.int .i64 ((used : Int) + 1))) := hO2.setCell (p := ⟨p, 2, none⟩) (fun _ => .inl rfl) _
      have hO3 := hO1.trans hO3' (fun _ _ e => e)
      have hui : ((used : Nat) : Int) ≤ 8192 := by omega
      replace hV2 := Lib.hid hV2
      replace hV3 := Lib.hid hV3
      go_upto_region 6 with (refine wpList_index_run rfl _ _ _ rfl (.slice (some ⟨g, 0, none⟩) cs.length cs.length) (.int .i64 (i : Int)) _ rfl rfl (hix.out _) ?_)
      clear y0 c0 c2 f2 lp lg hV2
      replace hV3 := hV3.out
      generalize W2.setCell ⟨p, 2, none⟩ (.int .i64 ((used : Int) + 1)) = W3 at *
      have hfin := Lib.hid (show LaidPost W p g m k v cs.length names used (W3.drew.setCells g (i * 4) (cellsK ⟨2, k, v⟩)) from
        ⟨_, _, _, hV3.drew.putCell hi ⟨2, k, v⟩, List.length_set .., hlay, by omega, Only.setCells (fun _ => .inr rfl) _ _ _ hO3.drew⟩)
      have hth := Lib.hid (hV3.drew.there hi)
      have hbx3 := hbx.only hO3' hnb.out
      have hbr := Lib.hid ((World.rangeAt_drew _ _ _ _).2 (show W3.rangeAt W.heap.size 0 [.int .u64 ((hiN k : Nat) : Int), .int .u64 ((loN k : Nat) : Int)] from fun j v hv => by rw [Nat.zero_add]; exact hbx3.spot j v hv))
      have c0 := hV3.c0
      have lp := hV3.lp
      clear hV3 hbx hbx3 hO3 hO3' hgz hlay hi hnb
      refine wp_region_still_tail 9 (by kernel_rfl) (by kernel_rfl) ?_
      simp only [List.take_succ_cons, List.take_zero, List.drop_succ_cons, List.drop_zero]
      change wpStill _ _ W3.drew _ _ _
      iterate 5 still_step
      refine still_loads rfl _ _ rfl W.heap.size 0 rfl [.int .u64 ((hiN k : Nat) : Int), .int .u64 ((loN k : Nat) : Int)] _ hbr.out Try.underlying33 rfl (by kernel_rfl) ?_
      simp only [Act.put, List.setIfInBounds_toArray, List.set_cons_zero, List.set_cons_succ]
      iterate 2 still_step
      refine still_index rfl _ _ _ rfl (.slice (some ⟨g, 0, none⟩) cs.length cs.length) (.int .i64 (i : Int)) _ rfl rfl (hix.out _) ?_
      simp only [Act.put, List.setIfInBounds_toArray, List.set_cons_zero, List.set_cons_succ]
      refine wpStill_nil ?_
      change wpList _ _ _ _ _ W3.drew
      refine wpList_store_mid rfl _ _ _ rfl g (i * 4) (cellsK ⟨2, k, v⟩).toArray rfl rfl hth.out (by kernel_rfl) (all_oneCell_toArray (cellsK_one _)) ?_
      simp only [Act.put]
      change wpList _ _ _ _ _ (W3.drew.setCells g (i * 4) (cellsK ⟨2, k, v⟩))
      generalize W3.drew.setCells g (i * 4) (cellsK ⟨2, k, v⟩) = W4 at *
      go_wp2
      go_ret
      exact ⟨by rw [hr1.out]; rfl, hfin.out⟩
    · rw [if_neg (by omega)] at hlay
      replace y0 : W2.cell? ⟨g, i * 4, none⟩ = some (.int .i64 1) := y0
      have hO3' := hO2
      have hO3 := hO1.trans hO3' (fun _ _ e => e)
      replace hV2 := Lib.hid hV2
      go_upto_region 6 with (refine wpList_index_run rfl _ _ _ rfl (.slice (some ⟨g, 0, none⟩) cs.length cs.length) (.int .i64 (i : Int)) _ rfl rfl (hix.out _) ?_)
      clear y0 c0 c2 f2 lp lg
      have hV3 := hV2.out
      clear hV2
      generalize W2 = W3 at *
      have hfin := Lib.hid (show LaidPost W p g m k v cs.length names used (W3.drew.setCells g (i * 4) (cellsK ⟨2, k, v⟩)) from
        ⟨_, _, _, hV3.drew.putCell hi ⟨2, k, v⟩, List.length_set .., hlay, by omega, Only.setCells (fun _ => .inr rfl) _ _ _ hO3.drew⟩)
      have hth := Lib.hid (hV3.drew.there hi)
      have hbx3 := hbx.only hO3' hnb.out
      have hbr := Lib.hid ((World.rangeAt_drew _ _ _ _).2 (show W3.rangeAt W.heap.size 0 [.int .u64 ((hiN k : Nat) : Int), .int .u64 ((loN k : Nat) : Int)] from fun j v hv => by rw [Nat.zero_add]; exact hbx3.spot j v hv))
      have c0 := hV3.c0
      have lp := hV3.lp
      clear hV3 hbx hbx3 hO3 hO3' hgz hlay hi hnb
      refine wp_region_still_tail 9 (by kernel_rfl) (by kernel_rfl) ?_
      simp only [List.take_succ_cons, List.take_zero, List.drop_succ_cons, List.drop_zero]
      change wpStill _ _ W3.drew _ _ _
      iterate 5 still_step
      refine still_loads rfl _ _ rfl W.heap.size 0 rfl [.int .u64 ((hiN k : Nat) : Int), .int .u64 ((loN k : Nat) : Int)] _ hbr.out Try.underlying33 rfl (by kernel_rfl) ?_
      simp only [Act.put, List.setIfInBounds_toArray, List.set_cons_zero, List.set_cons_succ]
      iterate 2 still_step
      refine still_index rfl _ _ _ rfl (.slice (some ⟨g, 0, none⟩) cs.length cs.length) (.int .i64 (i : Int)) _ rfl rfl (hix.out _) ?_
      simp only [Act.put, List.setIfInBounds_toArray, List.set_cons_zero, List.set_cons_succ]
      refine wpStill_nil ?_
      change wpList _ _ _ _ _ W3.drew
      refine wpList_store_mid rfl _ _ _ rfl g (i * 4) (cellsK ⟨2, k, v⟩).toArray rfl rfl hth.out (by kernel_rfl) (all_oneCell_toArray (cellsK_one _)) ?_
      simp only [Act.put]
      change wpList _ _ _ _ _ (W3.drew.setCells g (i * 4) (cellsK ⟨2, k, v⟩))
      generalize W3.drew.setCells g (i * 4) (cellsK ⟨2, k, v⟩) = W4 at *
      go_wp2
      go_ret
      exact ⟨by rw [hr1.out]; rfl, hfin.out⟩
end
end Go.Proofs.Ytpopbdladlahjaa
