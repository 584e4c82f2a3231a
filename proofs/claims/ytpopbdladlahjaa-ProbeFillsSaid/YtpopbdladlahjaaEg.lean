/- The landed table: its calls; it keeps all that the walks ask of it. No condition but sizes. -/
import Derived.Test.YtpopbdladlahjaaEf
import Derived.Test.YtpopbdladlahjaaRh
namespace Go.Proofs.Ytpopbdladlahjaa
open Go.RowKit Go.Sort Wm

theorem dropT_not : ∀ (m : Tbl) (k : Nat), getT m k = none → dropT m k = m
  | [], _, _ => rfl
  | (a, u) :: r, k, h => by
    unfold getT at h
    split at h
    · cases h
    · rename_i e
      unfold dropT
      rw [if_neg e, dropT_not r k h]
def TbKind : Kind Tbl := fun F W p m => ∃ (g : Nat) (cs : List Cl) (names used : Nat), PtV W p g cs names used ∧ CellsOk startZ cs m names used ∧ ∀ k, F k ↔ footP p g k
theorem tbKind_kind : IsKind TbKind where
  near := fun F W p m h k hk => by
    obtain ⟨g, cs, names, used, hV, hC, hF⟩ := h
    exact hV.near k ((hF k).1 hk)
  keep := fun F G W W' p m h hO hG => by
    obtain ⟨g, cs, names, used, hV, hC, hF⟩ := h
    exact ⟨g, cs, names, used, hV.keep hO (fun k hk => hG k ((hF k).2 hk)), hC, hF⟩
set_option maxRecDepth 100000 in
set_option maxHeartbeats 2000000 in
theorem tbGet_any (F : Nat → Prop) (W : World) (p : Nat) (m : Tbl) (k : Nat) (h : TbKind F W p m) (hk : k < big) :
    Calls Try.prog 10 #[.pointer (some ⟨p, 0, none⟩), numV k] W fun e W' => e = .returned (.tuple #[.int .i64 ((getT m k).getD 0), .bool (getT m k).isSome]) ∧ Below W.heap.size W W' := by
  obtain ⟨g, cs, names, used, hV, hC, -⟩ := h
  have hw0 : Below W.heap.size W (W.alloc (.cells #[.int .u64 ((hiN k : Nat) : Int), .int .u64 ((loN k : Nat) : Int)] 33)) := (Below.refl _ _).alloc (Nat.le_refl _) _
  have hbx := BoxAt.new W [.int .u64 ((hiN k : Nat) : Int), .int .u64 ((loN k : Nat) : Int)] 33
  replace hV := hV.later hw0
  have hfind := Lib.hid (tbFind_any hV hC.pow hC.kinds k hk)
  have hgz := Lib.hid hC
  clear hC
  obtain ⟨r1, hr1⟩ : ∃ r, r = (getT m k).getD 0 := ⟨_, rfl⟩
  obtain ⟨r2, hr2⟩ : ∃ r, r = (getT m k).isSome := ⟨_, rfl⟩
  rw [← hr1, ← hr2]
  replace hr1 := Lib.hid hr1
  replace hr2 := Lib.hid hr2
  go_enter Try.func10, Try.ntmps10
  generalize hw0e : W.alloc (.cells #[.int .u64 ((hiN k : Nat) : Int), .int .u64 ((loN k : Nat) : Int)] 33) = W0 at *
  have z0 := hbx.spot 0 _ rfl
  have z1 := hbx.spot 1 _ rfl
  have zl := hbx.lt
  go_wp2_with fail
  clear hw0e
  refine (hfind.out).mono ?_
  rintro e w1 ⟨hF, hb1⟩
  replace hV := hV.later hb1
  have hb := Lib.hid (hw0.trans (hb1.mono hw0.size))
  clear z0 z1 zl hb1 hw0 hfind hbx
  rcases hF with ⟨i, c, rfl, hc, h2, rfl⟩ | ⟨o, j, rfl, hpa, hend, -⟩
  · have hge := hgz.out.isHere hc h2 rfl
    have e1 := Lib.hid (show r1 = c.plc by rw [hr1.out, hge]; rfl)
    have e2 := Lib.hid (show r2 = true by rw [hr2.out, hge]; rfl)
    have hi := (List.getElem?_eq_some_iff.1 hc).1
    have hix := Lib.hid (run_idx_cell g cs.length cs.length i hi)
    have y3 := (hV.at_ hc).2.2.2
    have c0 := hV.c0
    have lp := hV.lp
    have lg := hV.lg
    clear hge hr1 hr2 hV hgz hc h2
    generalize c.plc = v at *
    go_wp2_with (refine wpList_index_run rfl _ _ _ rfl (.slice (some ⟨g, 0, none⟩) cs.length cs.length) (.int .i64 (i : Int)) _ rfl rfl (hix.out _) ?_)
    go_ret2
    exact ⟨by rw [e1.out, e2.out]; rfl, hb.out⟩
  · have hgn := hgz.out.notHere hpa hend
    have e1 := Lib.hid (show r1 = 0 by rw [hr1.out, hgn]; rfl)
    have e2 := Lib.hid (show r2 = false by rw [hr2.out, hgn]; rfl)
    clear hpa hend hgn hr1 hr2 hV hgz
    go_wp2
    go_ret2
    exact ⟨by rw [e1.out, e2.out]; rfl, hb.out⟩
set_option maxRecDepth 100000 in
set_option maxHeartbeats 2000000 in
theorem tbDrop_any (F : Nat → Prop) (W : World) (p : Nat) (m : Tbl) (k : Nat) (h : TbKind F W p m) (hk : k < big) :
    Calls Try.prog 12 #[.pointer (some ⟨p, 0, none⟩), numV k] W fun e W' => e = .returned (.bool (getT m k).isSome) ∧ PostO TbKind F p (dropT m k) W W' := by
  obtain ⟨g, cs, names, used, hV, hC, hFF⟩ := h
  have hw0 : Below W.heap.size W (W.alloc (.cells #[.int .u64 ((hiN k : Nat) : Int), .int .u64 ((loN k : Nat) : Int)] 33)) := (Below.refl _ _).alloc (Nat.le_refl _) _
  have hbx := BoxAt.new W [.int .u64 ((hiN k : Nat) : Int), .int .u64 ((loN k : Nat) : Int)] 33
  replace hV := hV.later hw0
  have hfind := Lib.hid (tbFind_any hV hC.pow hC.kinds k hk)
  have hgz := Lib.hid hC
  have hnc := hC.pos.2
  have hnu : names ≤ 8192 := by have := hC.namesLe; have := hC.usedLe; omega
  clear hC
  obtain ⟨r2, hr2⟩ : ∃ r, r = (getT m k).isSome := ⟨_, rfl⟩
  rw [← hr2]
  replace hr2 := Lib.hid hr2
  replace hFF := Lib.hid hFF
  go_enter Try.func12, Try.ntmps12
  generalize hw0e : W.alloc (.cells #[.int .u64 ((hiN k : Nat) : Int), .int .u64 ((loN k : Nat) : Int)] 33) = W0 at *
  have z0 := hbx.spot 0 _ rfl
  have z1 := hbx.spot 1 _ rfl
  have zl := hbx.lt
  go_wp2_with fail
  clear hw0e
  refine (hfind.out).mono ?_
  rintro e w1 ⟨hF, hb1⟩
  replace hV := hV.later hb1
  have hO := Lib.hid (show Only F W w1 from Only.of_below (hw0.trans (hb1.mono hw0.size)))
  clear z0 z1 zl hb1 hw0 hfind hbx
  rcases hF with ⟨i, c, rfl, hc, h2, rfl⟩ | ⟨o, j, rfl, hpa, hend, -⟩
  · have hge := hgz.out.isHere hc h2 rfl
    have e2 := Lib.hid (show r2 = true by rw [hr2.out, hge]; rfl)
    have hi := (List.getElem?_eq_some_iff.1 hc).1
    have hc0 : cs[i]? = some ⟨2, c.name, c.plc⟩ := by rw [hc]; cases c; dsimp only at h2; rw [h2]
    have hix := Lib.hid (run_idx_cell g cs.length cs.length i hi)
    have hdr := Lib.hid (hgz.out.drop hc0)
    have hth := Lib.hid (hV.there hi)
    have hi51 := Lib.hid (show (Try.prog.info? 51).map (·.size) = some (cellsK ⟨1, 0, 0⟩).toArray.size by kernel_rfl)
    have hV2 := Lib.hid (hV.putCell hi ⟨1, 0, 0⟩)
    have hO2 := Lib.hid (show Only F W (w1.setCells g (i * 4) (cellsK ⟨1, 0, 0⟩)) from Only.setCells (fun _ => (hFF.out g).2 (.inr rfl)) _ _ _ hO.out)
    have c0 := hV.c0
    have lp := hV.lp
    clear hge hr2 hV hgz hc h2 hc0 hO
    go_upto_region 6 with (first | (refine wpList_index_run rfl _ _ _ rfl (.slice (some ⟨g, 0, none⟩) cs.length cs.length) (.int .i64 (i : Int)) _ rfl rfl (hix.out _) ?_) | (refine wpList_store_mid rfl _ _ _ rfl g (i * 4) (cellsK ⟨1, 0, 0⟩).toArray rfl rfl hth.out hi51.out (all_oneCell_toArray (cellsK_one _)) ?_))
    try dsimp only [Act.put]
    try rw [List.toList_toArray]
    generalize w1.setCells g (i * 4) (cellsK ⟨1, 0, 0⟩) = W3 at *
    clear hth hi51 hix c0 lp
    have c1 := hV2.out.c1
    have f1 := hV2.out.fp 1
    have lp := hV2.out.lp
    have hn1 := hdr.out.2
    have hfin := Lib.hid (show PostO TbKind F p (dropT m c.name) W (W3.setCell ⟨p, 1, none⟩ (.int .i64 ((names : Int) - 1))) from by
      have e : ((names : Int) - 1) = ((names - 1 : Nat) : Int) := by omega
      rw [e]
      exact ⟨footP p g, ⟨g, _, _, _, hV2.out.put1 (names - 1), hdr.out.1, fun _ => Iff.rfl⟩, hO2.out.setCell (p := ⟨p, 1, none⟩) (fun _ => (hFF.out p).2 (.inl rfl)) _, fun j _ e => (hFF.out j).2 e⟩)
    clear hV2 hO2 hdr hFF
    go_wp2
    go_ret
    exact ⟨by rw [e2.out]; rfl, hfin.out⟩
  · have hgn := hgz.out.notHere hpa hend
    have e2 := Lib.hid (show r2 = false by rw [hr2.out, hgn]; rfl)
    have hdn := dropT_not m k hgn
    have hfin := Lib.hid (show PostO TbKind F p (dropT m k) W w1 from by
      rw [hdn]
      exact ⟨footP p g, ⟨g, _, _, _, hV, hgz.out, fun _ => Iff.rfl⟩, hO.out, fun j _ e => (hFF.out j).2 e⟩)
    clear hpa hend hgn hr2 hV hgz hdn hO
    go_wp2
    go_ret
    exact ⟨by rw [e2.out]; rfl, hfin.out⟩
set_option maxRecDepth 100000 in
set_option maxHeartbeats 2000000 in
theorem tbPut_any (F : Nat → Prop) (W : World) (p : Nat) (m : Tbl) (k : Nat) (v : Int) (h : TbKind F W p m) (hk : k < big) (hlen : m.length ≤ 1000) :
    Calls Try.prog 11 #[.pointer (some ⟨p, 0, none⟩), numV k, .int .i64 v] W fun e W' => e = .returned (.bool (!(getT m k).isSome)) ∧ PostO TbKind F p (putT m k v) W W' := by
  obtain ⟨g, cs, names, used, hV, hC, hFF⟩ := h
  have hw0 : Below W.heap.size W (W.alloc (.cells #[.int .u64 ((hiN k : Nat) : Int), .int .u64 ((loN k : Nat) : Int)] 33)) := (Below.refl _ _).alloc (Nat.le_refl _) _
  have hbx := BoxAt.new W [.int .u64 ((hiN k : Nat) : Int), .int .u64 ((loN k : Nat) : Int)] 33
  have hnp := Lib.hid (hV.near)
  replace hV := hV.later hw0
  have hcr := Lib.hid (tbCrowded_any hV hC.usedLe hC.pos.2)
  have hnl : names ≤ 1000 := by rw [hC.len]; exact hlen
  have hgz := Lib.hid hC
  have hnc := hC.pos.2
  clear hC hlen
  obtain ⟨r2, hr2⟩ : ∃ r, r = !(getT m k).isSome := ⟨_, rfl⟩
  rw [← hr2]
  replace hr2 := Lib.hid hr2
  replace hFF := Lib.hid hFF
  by_cases hcb : cs.length < 2 * (used + 1)
  · rw [decide_eq_true hcb] at hcr
    clear hcb
    go_enter Try.func11, Try.ntmps11
    go_wp2_with fail
    generalize hw0e : W.alloc (.cells #[.int .u64 ((hiN k : Nat) : Int), .int .u64 ((loN k : Nat) : Int)] 33) = W0 at *
    clear hw0e
    refine (hcr.out).mono ?_
    rintro e w1 ⟨rfl, hb1⟩
    have hV1 := hV.later hb1
    have han := Lib.hid (tbAnew_any hV1 hgz.out hnl)
    have hbx1 := hbx.later hb1
    have hO1 := Lib.hid (show Only F W w1 from Only.of_below (hw0.trans (hb1.mono hw0.size)))
    clear hcr hV hb1 hbx hw0 hgz
    go_wp2_with fail
    refine (han.out).mono ?_
    rintro e w2 ⟨rfl, g2, cs2, used2, hV2, hC2, hu2, hO2, hg2⟩
    have hlay := Lib.hid (tbLay_any hV2 hC2 hu2 k hk v)
    rw [← hr2.out] at hlay
    have hbx2 := hbx1.only hO2 (fun e => Nat.lt_irrefl _ (hnp.out W.heap.size e))
    have z0 := hbx2.spot 0 _ rfl
    have z1 := hbx2.spot 1 _ rfl
    have zl := hbx2.lt
    have hO3 := Lib.hid (show Only F W w2 from hO1.out.trans hO2 (fun j _ e => (hFF.out j).2 e))
    have hg3 := Lib.hid (show W.heap.size ≤ g2 from Nat.le_trans hO1.out.size hg2)
    clear hV1 hbx1 hbx2 hV2 hC2 hO2 han hr2 hO1 hu2 hg2
    go_wp2_with fail
    refine (hlay.out).mono ?_
    rintro e w3 ⟨rfl, cs3, names3, used3, k1, k2, k3, k4, k5⟩
    have hfin := Lib.hid (show PostO TbKind F p (putT m k v) W w3 from
      ⟨footP p g2, ⟨g2, _, _, _, k1, k3, fun _ => Iff.rfl⟩, hO3.out.trans k5 (fun j hj e => by
        rcases e with e | e
        · exact (hFF.out j).2 (.inl e)
        · have := hg3.out; omega), fun j hj e => by
        rcases e with e | e
        · exact (hFF.out j).2 (.inl e)
        · have := hg3.out; omega⟩)
    clear k1 k2 k3 k4 k5 hlay z0 z1 zl hO3
    go_wp2
    go_ret
    exact ⟨rfl, hfin.out⟩
  · rw [decide_eq_false hcb] at hcr
    have hu : used < cs.length := by omega
    clear hcb
    go_enter Try.func11, Try.ntmps11
    go_wp2_with fail
    generalize hw0e : W.alloc (.cells #[.int .u64 ((hiN k : Nat) : Int), .int .u64 ((loN k : Nat) : Int)] 33) = W0 at *
    clear hw0e
    refine (hcr.out).mono ?_
    rintro e w1 ⟨rfl, hb1⟩
    have hV1 := hV.later hb1
    have hlay := Lib.hid (tbLay_any hV1 hgz.out hu k hk v)
    rw [← hr2.out] at hlay
    have hbx1 := hbx.later hb1
    have z0 := hbx1.spot 0 _ rfl
    have z1 := hbx1.spot 1 _ rfl
    have zl := hbx1.lt
    have hO1 := Lib.hid (show Only F W w1 from Only.of_below (hw0.trans (hb1.mono hw0.size)))
    clear hcr hV hb1 hbx hw0 hgz hV1 hbx1 hr2 hu
    go_wp2_with fail
    refine (hlay.out).mono ?_
    rintro e w3 ⟨rfl, cs3, names3, used3, k1, k2, k3, k4, k5⟩
    have hfin := Lib.hid (show PostO TbKind F p (putT m k v) W w3 from
      ⟨footP p g, ⟨g, _, _, _, k1, k3, fun _ => Iff.rfl⟩, hO1.out.trans k5 (fun j _ e => (hFF.out j).2 e), fun j _ e => (hFF.out j).2 e⟩)
    clear k1 k2 k3 k4 k5 hlay z0 z1 zl hO1
    go_wp2
    go_ret
    exact ⟨rfl, hfin.out⟩
/-- The landed table keeps all that the walks ask of it. -/
theorem landedTb : LandedTb TbKind where
  toIsKind := tbKind_kind
  new := fun W => by
    refine (tbNew_any W).mono ?_
    rintro e W' ⟨p, g, rfl, hV, hp, hg, hb⟩
    exact ⟨p, footP p g, rfl, ⟨g, _, 0, 0, hV, CellsOk.blank (b := 4) (by omega) (by omega) rfl, fun _ => Iff.rfl⟩, fun k hk => by rcases hk with rfl | rfl <;> assumption, hb⟩
  put := fun F W p m k v h hk hl _ _ => tbPut_any F W p m k v h hk hl
  get := fun F W p m k h hk => tbGet_any F W p m k h hk
  drop := fun F W p m k h hk => tbDrop_any F W p m k h hk
  len := fun F W p m h => by
    obtain ⟨g, cs, names, used, hV, hC, -⟩ := h
    rw [← hC.len]
    exact tbLen_any hV
set_option maxRecDepth 100000 in
theorem landedTbNil : LandedTbNil where
  get := fun W k hk => by
    go_enter Try.func10, Try.ntmps10
    go_wp2
    go_ret2
    exact ⟨rfl, (Below.refl _ _).alloc (Nat.le_refl _) _⟩
  put := fun W k v hk h1 h2 => by
    go_enter Try.func11, Try.ntmps11
    go_wp2
    go_ret
    exact ⟨rfl, (Below.refl _ _).alloc (Nat.le_refl _) _⟩
  drop := fun W k hk => by
    go_enter Try.func12, Try.ntmps12
    go_wp2
    go_ret
    exact ⟨rfl, (Below.refl _ _).alloc (Nat.le_refl _) _⟩
  len := fun W => by
    go_enter Try.func9, Try.ntmps9
    go_wp2
    go_ret
    exact ⟨rfl, Below.refl _ _⟩
  cells := fun W => by
    go_enter Try.func13, Try.ntmps13
    go_wp2
    go_ret
    exact ⟨rfl, Below.refl _ _⟩
end Go.Proofs.Ytpopbdladlahjaa
