/- Stage 12, landed: a row turned about; a range; the landed list keeps all that the walks ask of it. No condition but sizes. -/
import Derived.Test.YtgpjbacggcfcmaaLog
import Derived.Test.YtgpjbacggcfcmaaOp
import Derived.Test.YtgpjbacggcfcmaaYld
import Derived.Laws.OwnMore
namespace Go.Proofs.Ytgpjbacggcfcmaa
open Go.RowKit Wm

/-- Turned about up to a place at both ends. -/
def TurnedZ (l cur : Zbl) (i : Nat) : Prop := cur.length = l.length ∧ ∀ t, t < l.length → cur[t]? = if t < i ∨ l.length - i ≤ t then l[l.length - 1 - t]? else l[t]?
theorem TurnedZ.zero (l : Zbl) : TurnedZ l l 0 := ⟨rfl, fun t ht => by rw [if_neg (by omega)]⟩
theorem TurnedZ.next {l cur : Zbl} {i : Nat} (h : TurnedZ l cur i) (hi : i < l.length - 1 - i) {x y : Int × Int} (hx : cur[i]? = some x) (hy : cur[l.length - 1 - i]? = some y) : TurnedZ l ((cur.set i y).set (l.length - 1 - i) x) (i + 1) := by
  obtain ⟨h1, h2⟩ := h
  refine ⟨by rw [List.length_set, List.length_set]; exact h1, fun t ht => ?_⟩
  have hxi := h2 i (by omega)
  rw [hx, if_neg (by omega)] at hxi
  have hyi := h2 (l.length - 1 - i) (by omega)
  rw [hy, if_neg (by omega)] at hyi
  rw [List.getElem?_set, List.getElem?_set, List.length_set]
  by_cases e1 : l.length - 1 - i = t
  · subst e1
    rw [if_pos rfl, if_pos (by omega), if_pos (by omega), show l.length - 1 - (l.length - 1 - i) = i from by omega]
    exact hxi
  · rw [if_neg e1]
    by_cases e2 : i = t
    · subst e2
      rw [if_pos rfl, if_pos (by omega), if_pos (by omega)]
      exact hyi
    · rw [if_neg e2, h2 t ht]
      by_cases e3 : t < i ∨ l.length - i ≤ t
      · rw [if_pos e3, if_pos (by omega)]
      · rw [if_neg e3, if_neg (by omega)]
theorem TurnedZ.all {l cur : Zbl} {i : Nat} (h : TurnedZ l cur i) (hi : l.length ≤ 2 * i + 1) : cur = l.reverse := by
  obtain ⟨h1, h2⟩ := h
  apply List.ext_getElem?
  intro t
  by_cases ht : t < l.length
  · rw [h2 t ht, List.getElem?_reverse ht]
    split
    · rfl
    · rename_i e
      have : t = l.length - 1 - t := by omega
      rw [← this]
  · rw [List.getElem?_eq_none (by omega), List.getElem?_eq_none (by rw [List.length_reverse]; omega)]
section
set_option maxRecDepth 100000 in
set_option maxHeartbeats 1000000 in
theorem orReverse_any (W : World) (g c : Nat) (l : Zbl) (hn : l.length ≤ 10000) (h : W.ownsRow 0 44 2 (.slice (some ⟨g, 0, none⟩) l.length c) l.length (rowP l)) :
    Calls Try.prog 20 #[.slice (some ⟨g, 0, none⟩) l.length c] W fun e W' => e = .returned (.tuple #[]) ∧ (W'.ownsRow 0 44 2 (.slice (some ⟨g, 0, none⟩) l.length c) l.length (rowP l.reverse) ∧ Only (fun k => k = g) W W') := by
  replace h := Lib.hid h
  go_enter Try.func20, Try.ntmps20
  go_wp2
  go_loopw [2, 3] (fun iv jv wr => ∃ (i : Nat) (cur : Zbl), iv = .int .i64 i ∧ jv = .int .i64 ((l.length : Int) - 1 - i) ∧ i ≤ l.length ∧ TurnedZ l cur i ∧ wr.ownsRow 0 44 2 (.slice (some ⟨g, 0, none⟩) cur.length c) cur.length (rowP cur) ∧ Only (fun k => k = g) W wr) (fun iv _ _ => l.length - (RowKit.intOf iv).toNat)
  case atStart => exact ⟨0, l, rfl, by go_num, Nat.zero_le _, TurnedZ.zero l, h.out, Only.refl _ _⟩
  case round =>
    obtain ⟨i, cur, rfl, rfl, hil, hT, hr, hO⟩ := hrel
    have hcl := hT.1
    by_cases hlt : i < l.length - 1 - i
    · have hi : i < cur.length := by omega
      have hj : l.length - 1 - i < cur.length := by omega
      have hjI : (((l.length - 1 - i : Nat)) : Int) = (l.length : Int) - 1 - i := by omega
      have hltI : ((i : Nat) : Int) < (l.length : Int) - 1 - i := by omega
      have hix1 := Lib.hid (run_idx_pairO g cur.length c i hi)
      have hix2 := Lib.hid (run_idx_pairO g cur.length c (l.length - 1 - i) hj)
      have hr1 := Lib.hid (row_range hr i hi)
      have hr2 := Lib.hid (row_range hr (l.length - 1 - i) hj)
      have hNx := Lib.hid (hT.next hlt (List.getElem?_eq_getElem hi) (List.getElem?_eq_getElem hj))
      obtain ⟨x, hx⟩ : ∃ x, x = cur[i] := ⟨_, rfl⟩
      obtain ⟨y, hy⟩ : ∃ y, y = cur[l.length - 1 - i] := ⟨_, rfl⟩
      rw [← hx] at hr1 hNx
      rw [← hy] at hr2 hNx
      have hrd : wr.drew.ownsRow 0 44 2 (.slice (some ⟨g, 0, none⟩) cur.length c) cur.length (rowP cur) := (Only.refl (fun _ => False) wr).drew.row hr (fun _ _ e => e)
      have t1 := Lib.hid (row_there hrd i hi)
      have hs1 := row_setPair hrd i y
      have t2 := Lib.hid (row_there hs1 (l.length - 1 - i) (by rw [List.length_set]; exact hj))
      have hs2 := Lib.hid (row_setPair hs1 (l.length - 1 - i) x)
      have hO2 := Lib.hid (show Only (fun k => k = g) W ((wr.drew.setCells g (i * 2) (cellsP y)).setCells g ((l.length - 1 - i) * 2) (cellsP x)) from
        ((((hO.drew).setCell (p := ⟨g, i * 2, none⟩) (fun _ => rfl) _).setCell (p := ⟨g, i * 2 + 1, none⟩) (fun _ => rfl) _).setCell (p := ⟨g, (l.length - 1 - i) * 2, none⟩) (fun _ => rfl) _).setCell (p := ⟨g, (l.length - 1 - i) * 2 + 1, none⟩) (fun _ => rfl) _)
      have i1 := Lib.hid (show (Try.prog.info? 44).map (·.size) = some (cellsP x).toArray.size by kernel_rfl)
      have i2 := Lib.hid (show (Try.prog.info? 44).map (·.size) = some (cellsP y).toArray.size by kernel_rfl)
      have i3 := Lib.hid (show (Try.prog.info? 44).map (·.size) = some (cellsP x).length by kernel_rfl)
      have i4 := Lib.hid (show (Try.prog.info? 44).map (·.size) = some (cellsP y).length by kernel_rfl)
      have o1 := Lib.hid (all_oneCell_toArray (cellsP_one x))
      have o2 := Lib.hid (all_oneCell_toArray (cellsP_one y))
      replace hT := Lib.hid hT
      clear hrd hs1 hr hx hy hO h
      rw [hcl] at hix1 hix2
      rw [hjI] at hix2
      replace hr1 := Lib.hid ((World.rangeAt_drew _ _ _ _).2 hr1.out)
      replace hr2 := Lib.hid ((World.rangeAt_drew _ _ _ _).2 hr2.out)
      have hfin := Lib.hid (show ∃ (i' : Nat) (cur' : Zbl), Value.int .i64 ((i : Int) + 1) = .int .i64 i' ∧ Value.int .i64 ((l.length : Int) - 1 - i - 1) = .int .i64 ((l.length : Int) - 1 - i') ∧ i' ≤ l.length ∧ TurnedZ l cur' i' ∧
          ((wr.drew.setCells g (i * 2) (cellsP y)).setCells g ((l.length - 1 - i) * 2) (cellsP x)).ownsRow 0 44 2 (.slice (some ⟨g, 0, none⟩) cur'.length c) cur'.length (rowP cur') ∧ Only (fun k => k = g) W ((wr.drew.setCells g (i * 2) (cellsP y)).setCells g ((l.length - 1 - i) * 2) (cellsP x)) from
        ⟨i + 1, _, by go_num, by congr 1; omega, by omega, hNx.out, hs2.out, hO2.out⟩)
      clear hNx hs2 hO2 hjI
      have hiN : i < l.length := by omega
      generalize l.length - 1 - i = j at *
      go_upto_region 3 with (fail)
      refine wp_region_need (fun _ => True) [0, 1, 2, 3, 4, 5, 6, 8, 9, 10] (by kernel_rfl) ?_
      refine need_takeL (i := 0) (v := ?cv98) rfl rfl (by kernel_rfl) (by kernel_rfl) (by kernel_rfl) (fun _ _ _ h => h) (Or.inl ⟨by rfl, ?ch98⟩) trivial ?cr98
      case ch98 => (intro w' hSw; (try dsimp only at hSw); go_simp; first | done | with_reducible rfl)
      try simp only [Act.put, List.setIfInBounds_toArray, List.set_cons_zero, List.set_cons_succ]
      refine need_takeL (i := 1) (v := ?cv101) rfl rfl (by kernel_rfl) (by kernel_rfl) (by kernel_rfl) (fun _ _ _ h => h) (Or.inl ⟨by rfl, ?ch101⟩) trivial ?cr101
      case ch101 => (intro w' hSw; (try dsimp only at hSw); go_simp; first | done | with_reducible rfl)
      try simp only [Act.put, List.setIfInBounds_toArray, List.set_cons_zero, List.set_cons_succ]
      refine need_takeL (i := 2) (v := ?cv104) rfl rfl (by kernel_rfl) (by kernel_rfl) (by kernel_rfl) (fun _ _ _ h => h) (Or.inl ⟨by rfl, ?ch104⟩) trivial ?cr104
      case ch104 => (intro w' hSw; (try dsimp only at hSw); go_simp; first | done | with_reducible rfl)
      try simp only [Act.put, List.setIfInBounds_toArray, List.set_cons_zero, List.set_cons_succ]
      refine need_takeL (i := 3) (v := ?cv107) rfl rfl (by kernel_rfl) (by kernel_rfl) (by kernel_rfl) (fun _ _ _ h => h) (Or.inl ⟨by rfl, ?ch107⟩) trivial ?cr107
      case ch107 => (intro w' hSw; (try dsimp only at hSw); go_simp; first | done | with_reducible rfl)
      try simp only [Act.put, List.setIfInBounds_toArray, List.set_cons_zero, List.set_cons_succ]
      refine need_takeL (i := 4) (v := ?cv110) rfl rfl (by kernel_rfl) (by kernel_rfl) (by kernel_rfl) (fun _ _ _ h => h) (Or.inl ⟨by rfl, ?ch110⟩) trivial ?cr110
      case ch110 => (intro w' hSw; (try dsimp only at hSw); go_simp; first | done | with_reducible rfl)
      try simp only [Act.put, List.setIfInBounds_toArray, List.set_cons_zero, List.set_cons_succ]
      refine need_takeL (i := 5) (v := ?cv113) rfl rfl (by kernel_rfl) (by kernel_rfl) (by kernel_rfl) (fun _ _ _ h => h) (Or.inl ⟨by rfl, ?ch113⟩) trivial ?cr113
      case ch113 => (intro w' hSw; (try dsimp only at hSw); go_simp; first | done | with_reducible rfl)
      try simp only [Act.put, List.setIfInBounds_toArray, List.set_cons_zero, List.set_cons_succ]
      refine need_takeL (i := 6) rfl rfl (by kernel_rfl) (by kernel_rfl) (by kernel_rfl) (fun _ _ _ h => h) (yields_index rfl (.slice (some ⟨g, 0, none⟩) l.length c) (.int .i64 ((l.length : Int) - 1 - i)) _ rfl rfl (fun _ => hix2.out _)) trivial ?_
      try simp only [Act.put, List.setIfInBounds_toArray, List.set_cons_zero, List.set_cons_succ]
      refine need_takeL (i := 8) (v := ?cv118) rfl rfl (by kernel_rfl) (by kernel_rfl) (by kernel_rfl) (fun _ _ _ h => h) (Or.inl ⟨by rfl, ?ch118⟩) trivial ?cr118
      case ch118 => (intro w' hSw; (try dsimp only at hSw); go_simp; first | done | with_reducible rfl)
      try simp only [Act.put, List.setIfInBounds_toArray, List.set_cons_zero, List.set_cons_succ]
      refine need_takeL (i := 9) (v := ?cv121) rfl rfl (by kernel_rfl) (by kernel_rfl) (by kernel_rfl) (fun _ _ _ h => h) (Or.inl ⟨by rfl, ?ch121⟩) trivial ?cr121
      case ch121 => (intro w' hSw; (try dsimp only at hSw); go_simp; first | done | with_reducible rfl)
      try simp only [Act.put, List.setIfInBounds_toArray, List.set_cons_zero, List.set_cons_succ]
      refine need_takeL (i := 10) rfl rfl (by kernel_rfl) (by kernel_rfl) (by kernel_rfl) (fun _ _ _ h => h) (yields_index rfl (.slice (some ⟨g, 0, none⟩) l.length c) (.int .i64 (i : Int)) _ rfl rfl (fun _ => hix1.out _)) trivial ?_
      try simp only [Act.put, List.setIfInBounds_toArray, List.set_cons_zero, List.set_cons_succ]
      refine need_from (S2 := fun w' => w'.rangeAt g (i * 2) (cellsP x) ∧ w'.rangeAt g (j * 2) (cellsP y)) (need2 := [7, 11]) (fun _ => trivial) _ _ _ _ ?_
      refine need_takeL (i := 7) rfl rfl (by kernel_rfl) (by kernel_rfl) (by kernel_rfl) (fun _ _ _ h => h) (yields_loads rfl (g) (j * 2) rfl (cellsP y) _ (fun w' hSw => hSw.2) Try.underlying44 rfl i4.out) ⟨hr1.out, hr2.out⟩ ?_
      try simp only [Act.put, List.setIfInBounds_toArray, List.set_cons_zero, List.set_cons_succ]
      refine need_takeL (i := 11) rfl rfl (by kernel_rfl) (by kernel_rfl) (by kernel_rfl) (fun _ _ _ h => h) (yields_loads rfl (g) (i * 2) rfl (cellsP x) _ (fun w' hSw => hSw.1) Try.underlying44 rfl i3.out) ⟨hr1.out, hr2.out⟩ ?_
      try simp only [Act.put, List.setIfInBounds_toArray, List.set_cons_zero, List.set_cons_succ]
      refine need_turnL (i := 12) rfl (by kernel_rfl) (by rfl) (fun K' hK' => ?_)
      refine wp_index_run _ _ _ rfl (.slice (some ⟨g, 0, none⟩) l.length c) (.int .i64 (i : Int)) _ rfl rfl (hix1.out _) ?_
      refine hK' _ _ (spared (by kernel_rfl)) ?_
      clear hK' K'
      try simp only [Act.put, List.setIfInBounds_toArray, List.set_cons_zero, List.set_cons_succ]
      refine need_turnL (i := 13) rfl (by kernel_rfl) (by rfl) (fun K' hK' => ?_)
      refine wp_store_mid _ _ _ rfl g (i * 2) (cellsP y).toArray rfl rfl t1.out i2.out o2.out ?_
      refine hK' _ _ (spared (by kernel_rfl)) ?_
      clear hK' K'
      try simp only [Act.put]
      change wpAnyN _ _ _ _ _ _ _ _ _ (wr.drew.setCells g (i * 2) (cellsP y))
      refine need_turnL (i := 14) rfl (by kernel_rfl) (by rfl) (fun K' hK' => ?_)
      refine wp_index_run _ _ _ rfl (.slice (some ⟨g, 0, none⟩) l.length c) (.int .i64 ((l.length : Int) - 1 - i)) _ rfl rfl (hix2.out _) ?_
      refine hK' _ _ (spared (by kernel_rfl)) ?_
      clear hK' K'
      try simp only [Act.put, List.setIfInBounds_toArray, List.set_cons_zero, List.set_cons_succ]
      refine need_turnL (i := 15) rfl (by kernel_rfl) (by rfl) (fun K' hK' => ?_)
      refine wp_store_mid _ _ _ rfl g (j * 2) (cellsP x).toArray rfl rfl t2.out i1.out o1.out ?_
      refine hK' _ _ (spared (by kernel_rfl)) ?_
      clear hK' K'
      try simp only [Act.put]
      change wpAnyN _ _ _ _ _ _ _ _ _ ((wr.drew.setCells g (i * 2) (cellsP y)).setCells g (j * 2) (cellsP x))
      refine need_done (by kernel_rfl) ?_ _
      clear hix1 hix2 hr1 hr2 t1 t2 i1 i2 i3 i4 o1 o2
      generalize (wr.drew.setCells g (i * 2) (cellsP y)).setCells g (j * 2) (cellsP x) = W4 at *
      go_wp2
      go_roundw
      case measure => simp [RowKit.intOf]; omega
      case rel => exact hfin.out
    · have hcr := hT.all (by omega)
      have hltI : ¬ ((i : Nat) : Int) < (l.length : Int) - 1 - i := by omega
      have hfin := Lib.hid (show wr.ownsRow 0 44 2 (.slice (some ⟨g, 0, none⟩) l.length c) l.length (rowP l.reverse) ∧ Only (fun k => k = g) W wr from ⟨by rw [hcr, List.length_reverse] at hr; exact hr, hO⟩)
      clear hT hr hcr hcl hO h
      go_wp2
      go_end0
      exact ⟨rfl, hfin.out⟩
end
end Go.Proofs.Ytgpjbacggcfcmaa
