/- Stage 14: UndoDoes' walk. No condition. -/
import Derived.Test.YtkahohgbcnchiaaUoa
namespace Go.Proofs.Ytkahohgbcnchiaa
open Go.RowKit Wm

section
variable {w W : World} {R : Asr} {g pl pk pd B : Nat} {D P : List StU} {n : Nat}
/-- A call of a script, on both; the call's own copy stands in a block. -/
theorem udoes_box (L : IsAsr R) {c : Ucall} (h : Held w W (star (boxA B c.cells) (star (deskA g (N2 g pl pk) D) (star (docA pd P) R)))) (hD : GoodU n D) (hP : GoodU n P) (hn : n ≤ 5000) :
    Calls Try.prog 10 #[.pointer (some ⟨g, 0, none⟩), .pointer (some ⟨pl, 0, none⟩), .pointer (some ⟨pk, 0, none⟩), .pointer (some ⟨pd, 0, none⟩), ucallV c] W fun e w' => DoesU D P e ∧ Held w w' (star (boxA B c.cells) (star (deskA g (N2 g pl pk) (histU D c)) (star (docA pd (histU P c)) R))) := by
  obtain ⟨st, past, rfl, l1, l2, l3⟩ := hD.cons
  obtain ⟨st2, past2, rfl, m1, m2, m3⟩ := hP.cons
  exact (udoes_any ((isAsr_box _ _).star L) h.push3 c (by omega) (by omega) (by omega) (by omega) (by omega) (by omega)).mono (fun _ _ ⟨a, b⟩ => ⟨a, b.pull3⟩)
end
set_option maxRecDepth 100000 in
set_option maxHeartbeats 4000000 in
theorem undoDoes_any (ao : Option Addr) (c1 : Nat) (a : List Ucall) (la : a.length ≤ 140737488351232) (w : World) (hA : UcallsAt w ao a) :
    Calls Try.prog 3 #[.slice ao a.length c1] w fun e w' => e = .returned (.bool true) ∧ Below w.heap.size w w' := by
  have hal := Lib.hid undoAlive_any
  by_cases q1 : 150 < a.length
  · have h1 : decide (150 < ((a.length : Nat) : Int)) = true := decide_eq_true (by omega)
    clear q1
    go_enter Try.func3, Try.ntmps3
    go_wp2_with fail
    refine (hal.out _).mono ?_
    rintro e w1 ⟨rfl, hb1⟩
    go_wp2
    go_ret
    exact ⟨rfl, hb1⟩
  have h1 : decide (150 < ((a.length : Nat) : Int)) = false := decide_eq_false (by omega)
  have hNa : a.length ≤ 150 := by omega
  clear q1
  go_enter Try.func3, Try.ntmps3
  go_wp2_with fail
  refine (hal.out _).mono ?_
  rintro e wa ⟨rfl, hb1⟩
  clear hal
  have h0 := ((Held.start w).later isAsr_nil hb1).newLog isAsr_nil
  replace h0 := Lib.hid h0
  clear hb1
  go_wp2_with fail
  replace h0 := h0.out
  generalize wa.alloc (.cells #[.slice none 0 0] 27) = wb at *
  generalize wa.heap.size = g at *
  refine (uOf_any (lgU g) wb).mono ?_
  rintro e wc ⟨rfl, rfl⟩
  have h3 := h0.newList ((isAsr_log _ _).star isAsr_nil) (lgU g)
  generalize wb.alloc (.cells #[.pointer (lgU g), .slice none 0 0] 55) = wc at *
  generalize wb.heap.size = pl at *
  replace h3 := Lib.hid h3
  clear h0
  go_wp2_with fail
  refine (uOf_any (lgU g) wc).mono ?_
  rintro e wd ⟨rfl, rfl⟩
  have h4 := h3.out.newList ((isAsr_list _ _ _).star ((isAsr_log _ _).star isAsr_nil)) (lgU g)
  have h5 : Held w _ (star (deskA g (N2 g pl wc.heap.size) [([], [])]) nilA) := ((h4.pull3.map (fun _ _ x => star_under (fun _ _ y => star_assoc (star_pull y)) x))).startDesk (N := N2 g pl wc.heap.size) (s := ([], []))
  generalize wc.alloc (.cells #[.pointer (lgU g), .slice none 0 0] 55) = wd at *
  generalize wc.heap.size = pk at *
  have kn := Lib.hid (docNew_h ((isAsr_desk (isAsr_N2 g pl pk) g _).star isAsr_nil) h5)
  clear h3 h4 h5
  go_wp2_with fail
  refine kn.out.mono ?_
  rintro e we ⟨pd, rfl, h6⟩
  replace h6 := Lib.hid h6.pull
  clear kn
  go_wp2_with fail
  go_loopw [31] (fun iv wr => ∃ (i : Nat) (D : List StU), i ≤ a.length ∧ iv = .int .i64 i ∧ GoodU i D ∧ Held w wr (star (deskA g (N2 g pl pk) D) (star (docA pd D) nilA))) (fun iv _ => (a.length - RowKit.intOf iv).toNat)
  case atStart => exact ⟨0, _, by omega, rfl, GoodU.start, h6.out⟩
  case round =>
    clear h6
    obtain ⟨i, D, hi, rfl, hD, hT⟩ := hrel
    by_cases hlt : i < a.length
    · obtain ⟨bb, off, rfl, hbl, x0, x1, x2, x3⟩ := ucalls_cells (hA.below hT.below (Nat.le_refl _)) hlt
      have hltI : decide (i < a.length) = true := decide_eq_true hlt
      have hD2 := hD.next a[i]
      have hT2 := (hT.box ((isAsr_desk (isAsr_N2 g pl pk) g _).star ((isAsr_doc _ _).star isAsr_nil)) (a[i]).cells 33).later ((isAsr_box _ _).star ((isAsr_desk (isAsr_N2 g pl pk) g _).star ((isAsr_doc _ _).star isAsr_nil))) (Below.refl _ _).drew
      generalize a[i] = x at *
      have kd := udoes_box isAsr_nil hT2 hD hD (by omega)
      obtain ⟨st, past, hst, l1, l2, l3⟩ := hD2.cons
      have hrel2 := Lib.hid (fun wx (h : Held w wx (star (deskA g (N2 g pl pk) (histU D x)) (star (docA pd (histU D x)) nilA))) => show ∃ (i' : Nat) (D : List StU), i' ≤ a.length ∧ Value.int .i64 ((i : Int) + 1) = .int .i64 i' ∧ GoodU i' D ∧ Held w wx (star (deskA g (N2 g pl pk) D) (star (docA pd D) nilA)) from ⟨i + 1, _, by omega, rfl, hD2, h⟩)
      rw [hst] at kd hrel2
      rw [ucallV_eq] at kd
      obtain ⟨kind, sec, ci, cx⟩ := x
      dsimp only at x0 x1 x2 x3 kd
      replace kd := Lib.hid kd
      have hbx0 := hT2.boxAt.1
      generalize hBn : wr.heap.size = B at *
      replace hBn := Lib.hid hBn
      clear hT hT2 hA hD hD2 hst
      go_upto_region 11 with (fail)
      rw [hBn.out]
      refine wp_region_need (fun w' => BoxAt w' B (Ucall.mk kind sec ci cx).cells) [0, 1, 2, 3, 4] (by kernel_rfl) ?_
      change wpAnyN _ _ _ _ _ _ _ _ _ (wr.alloc (.cells (Ucall.mk kind sec ci cx).cells.toArray 33)).drew
      generalize (wr.alloc (.cells (Ucall.mk kind sec ci cx).cells.toArray 33)).drew = W3 at *
      clear x0 x1 x2 x3
      refine need_takeL (i := 0) (v := ?cv95) rfl rfl (by kernel_rfl) (by kernel_rfl) (by kernel_rfl) (fun _ _ _ h => h) (Or.inl ⟨by rfl, ?ch95⟩) hbx0 ?cr95
      case ch95 => (intro w' hSw; (try dsimp only at hSw); go_simp; first | done | with_reducible rfl)
      try simp only [Act.put, List.setIfInBounds_toArray, List.set_cons_zero, List.set_cons_succ]
      refine need_takeL (i := 1) (v := ?cv98) rfl rfl (by kernel_rfl) (by kernel_rfl) (by kernel_rfl) (fun _ _ _ h => h) (Or.inl ⟨by rfl, ?ch98⟩) hbx0 ?cr98
      case ch98 => (intro w' hSw; (try dsimp only at hSw); go_simp; first | done | with_reducible rfl)
      try simp only [Act.put, List.setIfInBounds_toArray, List.set_cons_zero, List.set_cons_succ]
      refine need_takeL (i := 2) (v := ?cv101) rfl rfl (by kernel_rfl) (by kernel_rfl) (by kernel_rfl) (fun _ _ _ h => h) (Or.inl ⟨by rfl, ?ch101⟩) hbx0 ?cr101
      case ch101 => (intro w' hSw; (try dsimp only at hSw); go_simp; first | done | with_reducible rfl)
      try simp only [Act.put, List.setIfInBounds_toArray, List.set_cons_zero, List.set_cons_succ]
      refine need_takeL (i := 3) (v := ?cv104) rfl rfl (by kernel_rfl) (by kernel_rfl) (by kernel_rfl) (fun _ _ _ h => h) (Or.inl ⟨by rfl, ?ch104⟩) hbx0 ?cr104
      case ch104 => (intro w' hSw; (try dsimp only at hSw); go_simp; first | done | with_reducible rfl)
      try simp only [Act.put, List.setIfInBounds_toArray, List.set_cons_zero, List.set_cons_succ]
      refine need_takeL (i := 4) rfl rfl (by kernel_rfl) (by kernel_rfl) (by kernel_rfl) (fun _ _ _ h => h) (yields_loads rfl (B) (0) rfl ((Ucall.mk kind sec ci cx).cells) _ (fun w' hSw => hSw.range) Try.underlying33 rfl (by kernel_rfl)) hbx0 ?_
      try simp only [Act.put, List.setIfInBounds_toArray, List.set_cons_zero, List.set_cons_succ]
      refine need_turnL (i := 5) rfl (by kernel_rfl) (by rfl) (fun K' hK' => ?_)
      go_simp
      refine kd.out.mono ?_
      rintro e w5 ⟨⟨bt, rfl, hbt⟩, hT5⟩
      obtain rfl := hbt rfl
      have hbx := hT5.boxAt.1
      refine hK' _ _ (fun _ => hbx) ?_
      clear hK' K'
      try simp only [Act.put, List.setIfInBounds_toArray, List.set_cons_zero, List.set_cons_succ]
      clear kd hbt hbx0
      refine need_turnL (i := 6) rfl (by kernel_rfl) (by rfl) (fun K' hK' => ?_)
      go_simp
      refine hK' _ _ (fun _ => hbx) ?_
      clear hK' K'
      try simp only [Act.put, List.setIfInBounds_toArray, List.set_cons_zero, List.set_cons_succ]
      refine need_turnL (i := 7) rfl (by kernel_rfl) (by rfl) (fun K' hK' => ?_)
      go_simp
      refine hK' _ _ (fun _ => hbx) ?_
      clear hK' K'
      try simp only [Act.put, List.setIfInBounds_toArray, List.set_cons_zero, List.set_cons_succ]
      obtain ⟨da, dc, s0, s1⟩ := hT5.pull3.docSeen
      have km := Lib.hid (desk_mark hT5.pull)
      have ew : wrap64 (past.length : Int) = (past.length : Int) := by unfold wrap64; omega
      have ex : IntKind.i64.wrap (past.length : Int) = (past.length : Int) := by rw [IntKind.wrap_i64]; omega
      have hlast := Lib.hid l1
      have hbx5 : BoxAt w5 B (Ucall.mk kind sec ci cx).cells ∧ w5.cell? ⟨pd, 0, none⟩ = some (.slice da (past.length + 1) dc) ∧ pd < w5.heap.size := ⟨hbx, s0, s1⟩
      refine need_more (S2 := fun w' => BoxAt w' B (Ucall.mk kind sec ci cx).cells ∧ w'.cell? ⟨pd, 0, none⟩ = some (.slice da (past.length + 1) dc) ∧ pd < w'.heap.size) (need2 := [0, 1, 2, 3, 4, 8, 10, 11, 12, 13, 14, 15]) (fun _ h => h.1) (by decide) _ _ _ _ ?_
      clear l1
      refine need_takeL (i := 8) (v := ?cv137) rfl rfl (by kernel_rfl) (by kernel_rfl) (by kernel_rfl) (fun _ _ _ h => h) (Or.inl ⟨by rfl, ?ch137⟩) hbx5 ?cr137
      case ch137 => (intro w' hSw; (try dsimp only at hSw); go_simp; first | done | with_reducible rfl)
      try simp only [Act.put, List.setIfInBounds_toArray, List.set_cons_zero, List.set_cons_succ]
      refine need_takeL (i := 10) (v := ?cv140) rfl rfl (by kernel_rfl) (by kernel_rfl) (by kernel_rfl) (fun _ _ _ h => h) (Or.inl ⟨by rfl, ?ch140⟩) hbx5 ?cr140
      case ch140 => (intro w' hSw; (try dsimp only at hSw); go_simp; first | done | with_reducible rfl)
      try simp only [Act.put, List.setIfInBounds_toArray, List.set_cons_zero, List.set_cons_succ]
      refine need_takeL (i := 11) (v := ?cv143) rfl rfl (by kernel_rfl) (by kernel_rfl) (by kernel_rfl) (fun _ _ _ h => h) (Or.inl ⟨by rfl, ?ch143⟩) hbx5 ?cr143
      case ch143 => (intro w' hSw; (try dsimp only at hSw); go_simp; first | done | with_reducible rfl)
      try simp only [Act.put, List.setIfInBounds_toArray, List.set_cons_zero, List.set_cons_succ]
      refine need_takeL (i := 12) (v := ?cv146) rfl rfl (by kernel_rfl) (by kernel_rfl) (by kernel_rfl) (fun _ _ _ h => h) (Or.inl ⟨by rfl, ?ch146⟩) hbx5 ?cr146
      case ch146 => (intro w' hSw; (try dsimp only at hSw); go_simp; first | done | with_reducible rfl)
      try simp only [Act.put, List.setIfInBounds_toArray, List.set_cons_zero, List.set_cons_succ]
      refine need_takeL (i := 13) (v := ?cv149) rfl rfl (by kernel_rfl) (by kernel_rfl) (by kernel_rfl) (fun _ _ _ h => h) (Or.inl ⟨by rfl, ?ch149⟩) hbx5 ?cr149
      case ch149 => (intro w' hSw; (try dsimp only at hSw); go_simp; first | done | with_reducible rfl)
      try simp only [Act.put, List.setIfInBounds_toArray, List.set_cons_zero, List.set_cons_succ]
      refine need_takeL (i := 14) (v := ?cv152) rfl rfl (by kernel_rfl) (by kernel_rfl) (by kernel_rfl) (fun _ _ _ h => h) (Or.inl ⟨by rfl, ?ch152⟩) hbx5 ?cr152
      case ch152 => (intro w' hSw; (try dsimp only at hSw); go_simp; first | done | with_reducible rfl)
      try simp only [Act.put, List.setIfInBounds_toArray, List.set_cons_zero, List.set_cons_succ]
      refine need_takeL (i := 15) (v := ?cv155) rfl rfl (by kernel_rfl) (by kernel_rfl) (by kernel_rfl) (fun _ _ _ h => h) (Or.inl ⟨by rfl, ?ch155⟩) hbx5 ?cr155
      case ch155 => (intro w' hSw; (try dsimp only at hSw); go_simp; first | done | with_reducible rfl)
      try simp only [Act.put, List.setIfInBounds_toArray, List.set_cons_zero, List.set_cons_succ]
      refine need_turnL (i := 9) rfl (by kernel_rfl) (by rfl) (fun K' hK' => ?_)
      go_simp
      refine km.out.mono ?_
      rintro e w6 ⟨rfl, rfl⟩
      refine hK' _ _ (fun _ => hbx5) ?_
      clear hK' K'
      try simp only [Act.put, List.setIfInBounds_toArray, List.set_cons_zero, List.set_cons_succ]
      refine need_turnL (i := 16) rfl (by kernel_rfl) (by rfl) (fun K' hK' => ?_)
      go_simp
      refine hK' _ _ (fun _ => hbx5) ?_
      clear hK' K'
      try simp only [Act.put, List.setIfInBounds_toArray, List.set_cons_zero, List.set_cons_succ]
      refine need_turnL (i := 17) rfl (by kernel_rfl) (by rfl) (fun K' hK' => ?_)
      go_simp
      refine hK' _ _ (fun _ => hbx5) ?_
      clear hK' K'
      try simp only [Act.put, List.setIfInBounds_toArray, List.set_cons_zero, List.set_cons_succ]
      refine need_done (by kernel_rfl) ?_ _
      clear km ew ex hbx5 s0 s1 hbx
      obtain ⟨xa, xb, ra, rb, hd, hT6⟩ := hT5.pull3.openDoc
      have hd' := Lib.hid hd
      have hla : xa.length ≤ 100000 := by rw [hd.lenA]; have := hlast.out; omega
      have hlb : xb.length ≤ 100000 := by rw [hd.lenB]; have := hlast.out; omega
      have kn := pastNow_h ((isAsr_box _ _).star ((isAsr_desk (isAsr_N2 g pl pk) g _).star isAsr_nil)) hT6 hla hlb
      have hlenA : ra.len = st.1.length := by rw [Rw.reads_len hT6.pastReads.1, hd.ra]
      have hlenB : rb.len = st.2.length := by rw [Rw.reads_len hT6.pastReads.2, hd.rb]
      have hvA : ra.val = .slice ra.ao st.1.length ra.cap := by unfold Rw.val; rw [hlenA]
      have hvB : rb.val = .slice rb.ao st.2.length rb.cap := by unfold Rw.val; rw [hlenB]
      rw [hvA, hvB] at kn
      replace kn := Lib.hid kn
      have hxa : ra.xs = st.1 := hd.ra
      have hxb : rb.xs = st.2 := hd.rb
      replace hvA := Lib.hid hvA
      replace hvB := Lib.hid hvB
      replace hxa := Lib.hid hxa
      replace hxb := Lib.hid hxb
      replace hlenA := Lib.hid hlenA
      replace hlenB := Lib.hid hlenB
      clear hT5 hT6 hd hla hlb
      have LB : IsAsr (star (boxA B (Ucall.mk kind sec ci cx).cells) (star (deskA g (N2 g pl pk) (st :: past)) nilA)) := (isAsr_box _ _).star ((isAsr_desk (isAsr_N2 g pl pk) g _).star isAsr_nil)
      replace LB := Lib.hid LB
      go_wp2_with fail
      refine kn.out.mono ?_
      rintro e w6 ⟨rfl, hT6⟩
      obtain ⟨-, -, q2, -, lB⟩ := ubox hT6.pull.boxAt.1
      dsimp only at q2
      obtain ⟨v1, hv1⟩ := hT6.pull3.desk2List false
      have kat := Lib.hid (show Calls Try.prog 13 #[.pointer (some ⟨pl, 0, none⟩), .int .i64 ci] w6 fun e W' => e = .returned (.tuple #[.int .i64 (atU st.1 ci), .bool (hasU st.1 ci)]) ∧ w6 = W' from uAt_any hv1 ci)
      have ka := Lib.hid (uAll_any hv1 (show (selU false st).length ≤ 100000 from Nat.le_trans l2 (by omega)))
      replace hT6 := Lib.hid hT6
      clear kn hv1
      go_wp2_with fail
      refine kat.out.mono ?_
      rintro e w7 ⟨rfl, rfl⟩
      clear kat
      go_wp2_with fail
      refine ka.out.mono ?_
      rintro e w8 ⟨va, rfl, hna⟩
      have hT7 := hT6.out.later ((isAsr_past _ _ _).star LB.out) hna.2.2
      obtain ⟨sa, rfl, hsa, hsar⟩ := Rw.made hna.1
      have ks := usame_any hsar hT7.pastReads.1 (by rw [hsa, hxa.out]; rfl) (by rw [hsa]; exact Nat.le_trans l2 (by omega))
      rw [hvA.out] at ks
      unfold Rw.val at ks
      replace ks := Lib.hid ks
      replace hT7 := Lib.hid hT7
      clear ka hna hT6 hsar q2 lB
      unfold Rw.val
      go_wp2_with fail
      refine ks.out.mono ?_
      rintro e w9 ⟨rfl, hb9⟩
      have hT8 := hT7.out.later ((isAsr_past _ _ _).star LB.out) hb9
      obtain ⟨v2, hv2⟩ := hT8.pull3.desk2List true
      have kb := Lib.hid (uAll_any hv2 (show (selU true st).length ≤ 100000 from Nat.le_trans l3 (by omega)))
      replace hT8 := Lib.hid hT8
      clear ks hb9 hT7 hv2
      go_wp2_with fail
      refine kb.out.mono ?_
      rintro e w10 ⟨vb, rfl, hnb⟩
      have hT9 := hT8.out.later ((isAsr_past _ _ _).star LB.out) hnb.2.2
      obtain ⟨sb, rfl, hsb, hsbr⟩ := Rw.made hnb.1
      have ks := usame_any hsbr hT9.pastReads.2 (by rw [hsb, hxb.out]; rfl) (by rw [hsb]; exact Nat.le_trans l3 (by omega))
      rw [hvB.out] at ks
      unfold Rw.val at ks
      replace ks := Lib.hid ks
      replace hT9 := Lib.hid hT9
      clear kb hnb hT8 hsbr
      unfold Rw.val
      go_wp2_with fail
      refine ks.out.mono ?_
      rintro e w11 ⟨rfl, hb11⟩
      have hT10 := hT9.out.later ((isAsr_past _ _ _).star LB.out) hb11
      obtain ⟨v3, hv3⟩ := hT10.pull3.desk2List false
      have kl := Lib.hid (show Calls Try.prog 16 #[.pointer (some ⟨pl, 0, none⟩)] w11 fun e W' => e = .returned (.int .i64 ((st.1.length : Nat) : Int)) ∧ w11 = W' from uLen_any hv3)
      replace hT10 := Lib.hid hT10
      clear ks hb11 hT9 hv3
      go_wp2_with fail
      refine kl.out.mono ?_
      rintro e w12 ⟨rfl, rfl⟩
      clear kl
      obtain ⟨-, -, q2, -, lB⟩ := ubox hT10.out.pull.boxAt.1
      dsimp only at q2
      have hend := hrel2.out w11 ((hT10.out.shutDoc hd'.out).push3.rest)
      replace hend := Lib.hid hend
      have hread := hT10.out.pastReads.1
      clear hrel2 LB hlast hxb hlenB
      by_cases k0 : 0 ≤ ci
      · by_cases k1 : ci < (st.1.length : Int)
        · obtain ⟨n, rfl⟩ := Int.eq_ofNat_of_zero_le k0
          have hn : n < st.1.length := by omega
          have hu : hasU st.1 (n : Int) = true := decide_eq_true ⟨k0, k1⟩
          have hat : atU st.1 (n : Int) = st.1[n] := by
            unfold atU
            rw [if_pos hu, Int.toNat_natCast, List.getElem?_eq_getElem hn]; rfl
          have t1 : decide (n < st.1.length) = true := decide_eq_true hn
          obtain ⟨ga, gc, ega, hcell, -, lga⟩ := csI_cell (s := ra.xs) hread (i := n) (by rw [hxa.out]; exact hn)
          have hcell' : w11.cell? ⟨ga, n, none⟩ = some (.int .i64 st.1[n]) := by rw [hcell]; simp [hxa.out]
          rw [hvA.out] at ega
          injection ega with ega1 _ ega3
          have hidx := Lib.hid (fun w => run_idx_I ga st.1.length ra.cap n hn w)
          rw [hat]
          rw [ega1]
          clear hat hread k0 k1 hcell hvA hxa hlenA ega1 ega3
          generalize st.1[n] = y at *
          go_wp2_with (refine wpList_index_run rfl 39 _ _ rfl (.slice (some ⟨ga, 0, none⟩) st.1.length ra.cap) (.int .i64 (n : Int)) _ rfl rfl (hidx.out _) ?_)
          go_roundw
          case measure => simp [RowKit.intOf]; omega
          case rel => exact hend.out
        · have hu : hasU st.1 ci = false := decide_eq_false (fun z => k1 z.2)
          have hat : atU st.1 ci = 0 := by unfold atU; rw [hu]; rfl
          have t0 : decide (0 ≤ ci) = true := decide_eq_true k0
          have t1 : decide (ci < (st.1.length : Int)) = false := decide_eq_false k1
          rw [hat]
          clear hat hread k0 k1 hvA hxa hlenA
          go_wp2_with fail
          go_roundw
          case measure => simp [RowKit.intOf]; omega
          case rel => exact hend.out
      · have hu : hasU st.1 ci = false := decide_eq_false (fun z => k0 z.1)
        have hat : atU st.1 ci = 0 := by unfold atU; rw [hu]; rfl
        have t0 : decide (0 ≤ ci) = false := decide_eq_false k0
        rw [hat]
        clear hat hread k0 hvA hxa hlenA
        go_wp2_with fail
        go_roundw
        case measure => simp [RowKit.intOf]; omega
        case rel => exact hend.out
    · have hil : i = a.length := by omega
      subst hil
      have hltI : decide (a.length < a.length) = false := decide_eq_false (by omega)
      have hb0 := Lib.hid hT.below
      clear hlt hA hT hD hi
      go_wp2_with fail
      refine (uBack_nil wr).mono ?_
      rintro e w2 ⟨rfl, rfl⟩
      go_wp2_with fail
      refine (uClear_nil wr).mono ?_
      rintro e w2 ⟨rfl, rfl⟩
      go_wp2_with fail
      refine (uAt_nil 0 wr).mono ?_
      rintro e w2 ⟨rfl, rfl⟩
      go_wp2_with fail
      refine (uMark_nil wr).mono ?_
      rintro e w2 ⟨rfl, rfl⟩
      go_wp2_with fail
      refine (uLen_nil wr).mono ?_
      rintro e w2 ⟨rfl, rfl⟩
      go_wp2_with fail
      refine (uAll_nil wr).mono ?_
      rintro e w2 ⟨rfl, rfl⟩
      go_wp2_with fail
      refine (uAdd_nil 1 wr).mono ?_
      rintro e w2 ⟨rfl, hb2⟩
      replace hb2 := Lib.hid (hb0.out.trans (hb2.mono hb0.out.size))
      clear hb0
      go_wp2_with fail
      refine (uSet_nil 0 1 w2).mono ?_
      rintro e w3 ⟨rfl, hb3⟩
      replace hb3 := Lib.hid (hb2.out.trans (hb3.mono hb2.out.size))
      clear hb2
      go_wp2
      go_ret
      exact ⟨rfl, hb3.out⟩
end Go.Proofs.Ytkahohgbcnchiaa
