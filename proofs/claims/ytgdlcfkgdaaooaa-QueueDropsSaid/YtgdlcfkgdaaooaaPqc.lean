/- Stage 13, landed: two places of the row change. No condition but sizes. -/
import Derived.Test.YtgdlcfkgdaaooaaPqb
namespace Go.Proofs.Ytgdlcfkgdaaooaa
open Go.RowKit Wm

theorem swapQ_eq {s : List Qit} {i j : Nat} (hi : i < s.length) (hj : j < s.length) : swapQ s i j = (s.set i s[j]).set j s[i] := by unfold swapQ; rw [atQ_get hi, atQ_get hj]
section
set_option maxRecDepth 100000 in
set_option maxHeartbeats 1000000 in
theorem qSwap_any {W : World} {g c : Nat} {s : List Qit} (h : W.ownsRow 0 34 4 (.slice (some ⟨g, 0, none⟩) s.length c) s.length (rowK Qit.cells s)) (i j : Nat) (hi : i < s.length) (hj : j < s.length) :
    Calls Try.prog 41 #[.slice (some ⟨g, 0, none⟩) s.length c, .int .i64 (i : Int), .int .i64 (j : Int)] W fun e W' => e = .returned (.tuple #[]) ∧
      (W'.ownsRow 0 34 4 (.slice (some ⟨g, 0, none⟩) s.length c) s.length (rowK Qit.cells (swapQ s i j)) ∧ Only (fun k => k = g) W W') := by
  have hix1 := Lib.hid (fun w => run_idx_qit g s.length c i hi w)
  have hix2 := Lib.hid (fun w => run_idx_qit g s.length c j hj w)
  have hr1 := Lib.hid ((World.rangeAt_drew _ _ _ _).2 (rowK_range qitK h i hi))
  have hr2 := Lib.hid ((World.rangeAt_drew _ _ _ _).2 (rowK_range qitK h j hj))
  have hrd : W.drew.ownsRow 0 34 4 (.slice (some ⟨g, 0, none⟩) s.length c) s.length (rowK Qit.cells s) := (Only.refl (fun _ => False) W).drew.row h (fun _ _ e => e)
  have t1 := Lib.hid (show W.drew.there g (i * 4) (s[j]).cells.toArray.size from rowK_there qitK hrd i hi)
  have hs1 := rowK_store qitK hrd i hi s[j]
  have t2 := Lib.hid (show (W.drew.setCells g (i * 4) (s[j]).cells).there g (j * 4) (s[i]).cells.toArray.size from rowK_there qitK hs1 j (by rw [List.length_set]; exact hj))
  have hs2 := rowK_store qitK hs1 j (by rw [List.length_set]; exact hj) s[i]
  rw [← swapQ_eq hi hj, swapQ_length] at hs2
  have hO2 : Only (fun k => k = g) W ((W.drew.setCells g (i * 4) (s[j]).cells).setCells g (j * 4) (s[i]).cells) :=
    only_setCells (F := fun k => k = g) g (fun _ => rfl) _ _ (only_setCells (F := fun k => k = g) g (fun _ => rfl) _ _ ((Only.refl _ W).drew))
  have o1 := Lib.hid (all_oneCell_toArray (qitK.one s[i]))
  have o2 := Lib.hid (all_oneCell_toArray (qitK.one s[j]))
  have i1 := Lib.hid (show (Try.prog.info? 34).map (·.size) = some (s[i]).cells.toArray.size by kernel_rfl)
  have i2 := Lib.hid (show (Try.prog.info? 34).map (·.size) = some (s[j]).cells.toArray.size by kernel_rfl)
  have i3 := Lib.hid (show (Try.prog.info? 34).map (·.size) = some (s[i]).cells.length by kernel_rfl)
  have i4 := Lib.hid (show (Try.prog.info? 34).map (·.size) = some (s[j]).cells.length by kernel_rfl)
  have hfin := Lib.hid (And.intro hs2 hO2)
  clear hs1 hs2 hO2 hrd h
  generalize (s[i]).cells = X at *
  generalize (s[j]).cells = Y at *
  generalize rowK Qit.cells (swapQ s i j) = R at *
  generalize s.length = n at *
  go_enter Try.func41, Try.ntmps41
  go_wp2_with fail
  refine wp_region_need (fun _ => True) [0, 1, 2, 3, 4, 5, 6, 8, 9, 10] (by kernel_rfl) ?_
  refine need_takeL (i := 0) (v := ?cv39) rfl rfl (by kernel_rfl) (by kernel_rfl) (by kernel_rfl) (fun _ _ _ h => h) (Or.inl ⟨by rfl, ?ch39⟩) trivial ?cr39
  case ch39 => (intro w' hSw; (try dsimp only at hSw); go_simp; first | done | with_reducible rfl)
  try simp only [Act.put, List.setIfInBounds_toArray, List.set_cons_zero, List.set_cons_succ]
  refine need_takeL (i := 1) (v := ?cv42) rfl rfl (by kernel_rfl) (by kernel_rfl) (by kernel_rfl) (fun _ _ _ h => h) (Or.inl ⟨by rfl, ?ch42⟩) trivial ?cr42
  case ch42 => (intro w' hSw; (try dsimp only at hSw); go_simp; first | done | with_reducible rfl)
  try simp only [Act.put, List.setIfInBounds_toArray, List.set_cons_zero, List.set_cons_succ]
  refine need_takeL (i := 2) (v := ?cv45) rfl rfl (by kernel_rfl) (by kernel_rfl) (by kernel_rfl) (fun _ _ _ h => h) (Or.inl ⟨by rfl, ?ch45⟩) trivial ?cr45
  case ch45 => (intro w' hSw; (try dsimp only at hSw); go_simp; first | done | with_reducible rfl)
  try simp only [Act.put, List.setIfInBounds_toArray, List.set_cons_zero, List.set_cons_succ]
  refine need_takeL (i := 3) (v := ?cv48) rfl rfl (by kernel_rfl) (by kernel_rfl) (by kernel_rfl) (fun _ _ _ h => h) (Or.inl ⟨by rfl, ?ch48⟩) trivial ?cr48
  case ch48 => (intro w' hSw; (try dsimp only at hSw); go_simp; first | done | with_reducible rfl)
  try simp only [Act.put, List.setIfInBounds_toArray, List.set_cons_zero, List.set_cons_succ]
  refine need_takeL (i := 4) (v := ?cv51) rfl rfl (by kernel_rfl) (by kernel_rfl) (by kernel_rfl) (fun _ _ _ h => h) (Or.inl ⟨by rfl, ?ch51⟩) trivial ?cr51
  case ch51 => (intro w' hSw; (try dsimp only at hSw); go_simp; first | done | with_reducible rfl)
  try simp only [Act.put, List.setIfInBounds_toArray, List.set_cons_zero, List.set_cons_succ]
  refine need_takeL (i := 5) (v := ?cv54) rfl rfl (by kernel_rfl) (by kernel_rfl) (by kernel_rfl) (fun _ _ _ h => h) (Or.inl ⟨by rfl, ?ch54⟩) trivial ?cr54
  case ch54 => (intro w' hSw; (try dsimp only at hSw); go_simp; first | done | with_reducible rfl)
  try simp only [Act.put, List.setIfInBounds_toArray, List.set_cons_zero, List.set_cons_succ]
  refine need_takeL (i := 6) rfl rfl (by kernel_rfl) (by kernel_rfl) (by kernel_rfl) (fun _ _ _ h => h) (yields_index rfl (.slice (some ⟨g, 0, none⟩) n c) (.int .i64 (j : Int)) _ rfl rfl (fun _ => hix2.out _)) trivial ?_
  try simp only [Act.put, List.setIfInBounds_toArray, List.set_cons_zero, List.set_cons_succ]
  refine need_takeL (i := 8) (v := ?cv59) rfl rfl (by kernel_rfl) (by kernel_rfl) (by kernel_rfl) (fun _ _ _ h => h) (Or.inl ⟨by rfl, ?ch59⟩) trivial ?cr59
  case ch59 => (intro w' hSw; (try dsimp only at hSw); go_simp; first | done | with_reducible rfl)
  try simp only [Act.put, List.setIfInBounds_toArray, List.set_cons_zero, List.set_cons_succ]
  refine need_takeL (i := 9) (v := ?cv62) rfl rfl (by kernel_rfl) (by kernel_rfl) (by kernel_rfl) (fun _ _ _ h => h) (Or.inl ⟨by rfl, ?ch62⟩) trivial ?cr62
  case ch62 => (intro w' hSw; (try dsimp only at hSw); go_simp; first | done | with_reducible rfl)
  try simp only [Act.put, List.setIfInBounds_toArray, List.set_cons_zero, List.set_cons_succ]
  refine need_takeL (i := 10) rfl rfl (by kernel_rfl) (by kernel_rfl) (by kernel_rfl) (fun _ _ _ h => h) (yields_index rfl (.slice (some ⟨g, 0, none⟩) n c) (.int .i64 (i : Int)) _ rfl rfl (fun _ => hix1.out _)) trivial ?_
  try simp only [Act.put, List.setIfInBounds_toArray, List.set_cons_zero, List.set_cons_succ]
  refine need_from (S2 := fun w' => w'.rangeAt g (i * 4) X ∧ w'.rangeAt g (j * 4) Y) (need2 := [7, 11]) (fun _ => trivial) _ _ _ _ ?_
  refine need_takeL (i := 7) rfl rfl (by kernel_rfl) (by kernel_rfl) (by kernel_rfl) (fun _ _ _ h => h) (yields_loads rfl (g) (j * 4) rfl (Y) _ (fun w' hSw => hSw.2) Try.underlying34 rfl i4.out) ⟨hr1.out, hr2.out⟩ ?_
  try simp only [Act.put, List.setIfInBounds_toArray, List.set_cons_zero, List.set_cons_succ]
  refine need_takeL (i := 11) rfl rfl (by kernel_rfl) (by kernel_rfl) (by kernel_rfl) (fun _ _ _ h => h) (yields_loads rfl (g) (i * 4) rfl (X) _ (fun w' hSw => hSw.1) Try.underlying34 rfl i3.out) ⟨hr1.out, hr2.out⟩ ?_
  try simp only [Act.put, List.setIfInBounds_toArray, List.set_cons_zero, List.set_cons_succ]
  refine need_turnL (i := 12) rfl (by kernel_rfl) (by rfl) (fun K' hK' => ?_)
  refine wp_index_run _ _ _ rfl (.slice (some ⟨g, 0, none⟩) n c) (.int .i64 (i : Int)) _ rfl rfl (hix1.out _) ?_
  refine hK' _ _ (spared (by kernel_rfl)) ?_
  clear hK' K'
  try simp only [Act.put, List.setIfInBounds_toArray, List.set_cons_zero, List.set_cons_succ]
  refine need_turnL (i := 13) rfl (by kernel_rfl) (by rfl) (fun K' hK' => ?_)
  refine wp_store_mid _ _ _ rfl g (i * 4) Y.toArray rfl rfl t1.out i2.out o2.out ?_
  refine hK' _ _ (spared (by kernel_rfl)) ?_
  clear hK' K'
  try simp only [Act.put]
  change wpAnyN _ _ _ _ _ _ _ _ _ (W.drew.setCells g (i * 4) Y)
  refine need_turnL (i := 14) rfl (by kernel_rfl) (by rfl) (fun K' hK' => ?_)
  refine wp_index_run _ _ _ rfl (.slice (some ⟨g, 0, none⟩) n c) (.int .i64 (j : Int)) _ rfl rfl (hix2.out _) ?_
  refine hK' _ _ (spared (by kernel_rfl)) ?_
  clear hK' K'
  try simp only [Act.put, List.setIfInBounds_toArray, List.set_cons_zero, List.set_cons_succ]
  refine need_turnL (i := 15) rfl (by kernel_rfl) (by rfl) (fun K' hK' => ?_)
  refine wp_store_mid _ _ _ rfl g (j * 4) X.toArray rfl rfl t2.out i1.out o1.out ?_
  refine hK' _ _ (spared (by kernel_rfl)) ?_
  clear hK' K'
  try simp only [Act.put]
  change wpAnyN _ _ _ _ _ _ _ _ _ ((W.drew.setCells g (i * 4) Y).setCells g (j * 4) X)
  refine need_done (by kernel_rfl) ?_ _
  clear hix1 hix2 hr1 hr2 t1 t2 i1 i2 i3 i4 o1 o2
  generalize (W.drew.setCells g (i * 4) Y).setCells g (j * 4) X = W4 at *
  go_wp2
  go_end0
  exact ⟨rfl, hfin.out⟩
end
end Go.Proofs.Ytgdlcfkgdaaooaa
