/- Stage 13: the document's Without; the questions on equal items. No condition but sizes. -/
import Derived.Test.YtgdlcfkgdaaooaaPqs
import Derived.Lib.AppendZeros
import Derived.IntWalk
namespace Go.Proofs.Ytgdlcfkgdaaooaa
open Go.RowKit Wm

/-- New memory that holds a row. -/
def NewRow (W : World) (m : List Qit) (e : Ending) (W' : World) : Prop := ∃ v, e = .returned v ∧ RefRow W' v m ∧ Below W.heap.size W W' ∧ ∀ k, v.ownBlock = some k → W.heap.size ≤ k
theorem run_build_none (w : World) : (Instr.buildSlice 29 0 #[]).run Try.prog w = .ok (.slice (some ⟨w.heap.size, 0, none⟩) 0 0) (w.alloc (.cells #[] 39)) := by
  have hu := Try.underlying29
  obtain ⟨ie, z, h1, h2, h3, h4, h5⟩ := infoRef.ex
  have hu : Try.prog.underlying 29 = some (.slice 39) := by kernel_rfl
  simp [Instr.buildSlice, run_underlying hu, sizeOf, typeInfo, h1, newRow, Instr.fill]
  rw [show Array.map (fun (_ : Nat) => (default : Value)) (Array.range 0) = #[] from Array.eq_empty_of_size_eq_zero (by simp)]
theorem wp_build_none {o : Oper} {a : Act} {w : World} {N : Act → World → Prop} {Q : Exit → Act → World → Prop} (ho : o.op = .buildSlice 29 0 #[])
    (h : N (a.put o.dst (.slice (some ⟨w.heap.size, 0, none⟩) 0 0)) (w.alloc (.cells #[] 39))) : o.wp Try.prog a w N Q := by
  unfold Oper.wp execOp
  have e1 : (Array.map (fun (y : Nat × Operand) => match y with | (i, y) => (i, a.eval y)) #[]) = #[] := by simp
  simp only [ho, e1, Sem.run_bind, run_build_none w, Result.andThen_ok]
  exact h
set_option maxRecDepth 100000 in
set_option maxHeartbeats 1000000 in
theorem refWithout_any {W : World} {v : Value} {t : List Qit} (h : RefRow W v t) (hn : t.length ≤ 50000) (i : Nat) (hi : i < t.length) :
    Calls Try.prog 11 #[v, .int .i64 (i : Int)] W (NewRow W (t.take i ++ t.drop (i + 1))) := by
  rcases own_spot h with ⟨-, h0⟩ | ⟨g, c, rfl, hg, hc, -⟩
  · omega
  have hu : Try.prog.underlying 29 = some (.slice 39) := by kernel_rfl
  have hs : (Try.prog.info? 39).map (·.size) = some 4 := by kernel_rfl
  have hup := Lib.hid (run_upto_K (P := Try.prog) (ty := 29) hu hs g t.length c i (by omega) hc)
  have hfr := Lib.hid (run_from_K (P := Try.prog) (ty := 29) hu hs g t.length c (i + 1) (by omega) hc)
  -- the three steps
  obtain ⟨W1, hW1⟩ : ∃ W1, W1 = W.drew.alloc (.cells #[] 39) := ⟨_, rfl⟩
  have hb1 : Below W.heap.size W W1 := by rw [hW1]; exact (Below.refl _ _).drew.alloc (Nat.le_refl _) _
  have hr1 := (Only.of_below (F := fun _ => False) hb1).row h (fun _ _ e => e)
  have ho1 : W1.ownsRow 0 39 4 (.slice (some ⟨W.heap.size, 0, none⟩) ([] : List Qit).length 0) ([] : List Qit).length (rowK Qit.cells []) := by
    refine ⟨rfl, .inr ⟨W.heap.size, 0, #[], rfl, Nat.zero_le _, ?_, Nat.le_refl _, by unfold maxLen; omega, rfl, rfl⟩⟩
    rw [hW1]
    exact heap_alloc_new W.drew _
  have htk : (t.take i).length = i := by rw [List.length_take]; omega
  have hsrc := rowK_src refK hr1 0 i
  rw [Nat.zero_mul, List.drop_zero] at hsrc
  obtain ⟨v2, W2, e2, o2, g2, d2⟩ := app_rowK (P := Try.prog) (ty := 29) refK hu infoRef W1 _ [] (t.take i) ho1 ⟨g, 0, none⟩ c hsrc (by simp; omega) (by omega)
  rw [htk] at e2
  have hO2 : Only (fun k => k = W.heap.size) W1 W2 := Only.of_grown g2 (fun k _ e => by injection e with e; exact e.symm)
  have hb2 : Below W.heap.size W W2 := hb1.trans (hO2.to_below hb1.size (fun k e => by omega))
  have hr2 := (Only.of_below (F := fun _ => False) hb2).row h (fun _ _ e => e)
  have hv2 : ∀ k, v2.ownBlock = some k → W.heap.size ≤ k := fun k e => by
    rcases d2 with d | d
    · rw [d] at e
      have : W.heap.size = k := by injection e
      omega
    · rw [d] at e
      have e2 : W1.heap.size = k := by injection e
      have := hb1.size
      omega
  rw [List.nil_append] at o2
  have hdl : (t.drop (i + 1)).length = t.length - (i + 1) := List.length_drop ..
  have hsrc3 : ∀ j u, (rowK Qit.cells (t.drop (i + 1)))[j]? = some u → W2.cell? ((⟨g, if i + 1 = c then 0 else (i + 1) * 4, none⟩ : Addr).add j) = some u := by
    by_cases e : i + 1 = c
    · have : t.drop (i + 1) = [] := List.drop_eq_nil_of_le (by omega)
      rw [this]
      intro j u hj
      simp [rowK] at hj
    · rw [if_neg e]
      have := rowK_src refK hr2 (i + 1) (t.length - (i + 1))
      rw [List.take_of_length_le (by rw [hdl]; omega)] at this
      exact this
  obtain ⟨v3, W3, e3, o3, g3, d3⟩ := app_rowK (P := Try.prog) (ty := 29) refK hu infoRef W2 v2 (t.take i) (t.drop (i + 1)) o2 ⟨g, if i + 1 = c then 0 else (i + 1) * 4, none⟩ (c - (i + 1)) hsrc3 (by rw [htk, hdl]; omega) (by omega)
  rw [hdl] at e3
  have hO3 : Only (fun k => v2.ownBlock = some k) W2 W3 := Only.of_grown g3 (fun k _ e => e)
  have hb3 : Below W.heap.size W W3 := hb2.trans (hO3.to_below hb2.size (fun k e => hv2 k e))
  have hv3 : ∀ k, v3.ownBlock = some k → W.heap.size ≤ k := fun k e => by
    rcases d3 with d | d
    · rw [d] at e; exact hv2 k e
    · rw [d] at e
      have e2 : W2.heap.size = k := by injection e
      have := hb2.size
      omega
  have hfin := Lib.hid (show NewRow W (t.take i ++ t.drop (i + 1)) (.returned v3) W3 from ⟨v3, rfl, o3, hb3, hv3⟩)
  replace hW1 := Lib.hid hW1
  replace e2 := Lib.hid e2
  replace e3 := Lib.hid e3
  have hbn := Lib.hid (run_build_none W.drew)
  have ew : ((i + 1 : Nat) : Int) = (i : Int) + 1 := by omega
  rw [ew] at hfr
  have hnb : (t.length : Int) ≤ 50000 := by omega
  have hib : (i : Int) < t.length := by omega
  have hwr : IntKind.i64.wrap ((i : Int) + 1) = (i : Int) + 1 := IntWalk.i64_in _ (by omega)
  clear h ho1 hr1 hsrc o2 g2 d2 hO2 hb2 hr2 hv2 hsrc3 o3 g3 d3 hO3 hb3 hv3 hb1 hu hs htk hdl
  generalize (if i + 1 = c then 0 else (i + 1) * 4) = off at *
  generalize t.take i ++ t.drop (i + 1) = T at *
  generalize t.length - (i + 1) = rest at *
  generalize t.length = n at *
  go_enter Try.func11, Try.ntmps11
  go_upto_region 1 with (fail)
  refine wp_region_need (fun _ => True) [1, 2, 3, 5, 6, 7, 8] (by kernel_rfl) ?_
  refine need_takeL (i := 1) (v := ?cv97) rfl rfl (by kernel_rfl) (by kernel_rfl) (by kernel_rfl) (fun _ _ _ h => h) (Or.inl ⟨by rfl, ?ch97⟩) trivial ?cr97
  case ch97 => (intro w' hSw; (try dsimp only at hSw); go_simp; first | done | with_reducible rfl)
  try simp only [Act.put, List.setIfInBounds_toArray, List.set_cons_zero, List.set_cons_succ]
  refine need_takeL (i := 2) (v := ?cv100) rfl rfl (by kernel_rfl) (by kernel_rfl) (by kernel_rfl) (fun _ _ _ h => h) (Or.inl ⟨by rfl, ?ch100⟩) trivial ?cr100
  case ch100 => (intro w' hSw; (try dsimp only at hSw); go_simp; first | done | with_reducible rfl)
  try simp only [Act.put, List.setIfInBounds_toArray, List.set_cons_zero, List.set_cons_succ]
  refine need_takeL (i := 3) rfl rfl (by kernel_rfl) (by kernel_rfl) (by kernel_rfl) (fun _ _ _ h => h) (yields_slice rfl (.slice (some ⟨g, 0, none⟩) n c) none (some (.int .i64 (i : Int))) none (.slice (some ⟨g, 0, none⟩) i c) rfl rfl rfl rfl hup.out) trivial ?_
  try simp only [Act.put, List.setIfInBounds_toArray, List.set_cons_zero, List.set_cons_succ]
  refine need_takeL (i := 5) (v := ?cv105) rfl rfl (by kernel_rfl) (by kernel_rfl) (by kernel_rfl) (fun _ _ _ h => h) (Or.inl ⟨by rfl, ?ch105⟩) trivial ?cr105
  case ch105 => (intro w' hSw; (try dsimp only at hSw); go_simp; first | done | with_reducible rfl)
  try simp only [Act.put, List.setIfInBounds_toArray, List.set_cons_zero, List.set_cons_succ]
  refine need_takeL (i := 6) (v := ?cv108) rfl rfl (by kernel_rfl) (by kernel_rfl) (by kernel_rfl) (fun _ _ _ h => h) (Or.inl ⟨by rfl, ?ch108⟩) trivial ?cr108
  case ch108 => (intro w' hSw; (try dsimp only at hSw); go_simp; first | done | with_reducible rfl)
  try simp only [Act.put, List.setIfInBounds_toArray, List.set_cons_zero, List.set_cons_succ]
  refine need_takeL (i := 7) (v := ?cv111) rfl rfl (by kernel_rfl) (by kernel_rfl) (by kernel_rfl) (fun _ _ _ h => h) (Or.inl ⟨by rfl, ?ch111⟩) trivial ?cr111
  case ch111 => (intro w' hSw; (try dsimp only at hSw); go_simp; first | done | with_reducible rfl)
  try simp only [Act.put, List.setIfInBounds_toArray, List.set_cons_zero, List.set_cons_succ]
  refine need_takeL (i := 8) rfl rfl (by kernel_rfl) (by kernel_rfl) (by kernel_rfl) (fun _ _ _ h => h) (yields_slice rfl (.slice (some ⟨g, 0, none⟩) n c) (some (.int .i64 ((i : Int) + 1))) none none (.slice (some ⟨g, off, none⟩) rest (c - (i + 1))) rfl rfl rfl rfl hfr.out) trivial ?_
  try simp only [Act.put, List.setIfInBounds_toArray, List.set_cons_zero, List.set_cons_succ]
  refine need_turnL (i := 0) rfl (by kernel_rfl) (by rfl) (fun K' hK' => ?_)
  refine wp_build_none rfl ?_
  refine hK' _ _ (fun _ => trivial) ?_
  clear hK' K'
  try simp only [Act.put, List.setIfInBounds_toArray, List.set_cons_zero, List.set_cons_succ]
  change wpAnyN _ _ _ _ _ _ _ _ _ (W.drew.alloc (.cells #[] 39))
  rw [← hW1.out]
  refine need_turnL (i := 4) rfl (by kernel_rfl) (by rfl) (fun K' hK' => ?_)
  refine Lib.wp_append_run _ _ _ _ _ rfl _ _ rfl rfl _ _ e2.out ?_
  refine hK' _ _ (fun _ => trivial) ?_
  clear hK' K'
  try simp only [Act.put, List.setIfInBounds_toArray, List.set_cons_zero, List.set_cons_succ]
  refine need_turnL (i := 9) rfl (by kernel_rfl) (by rfl) (fun K' hK' => ?_)
  refine Lib.wp_append_run _ _ _ _ _ rfl _ _ rfl rfl _ _ e3.out ?_
  refine hK' _ _ (fun _ => trivial) ?_
  clear hK' K'
  try simp only [Act.put, List.setIfInBounds_toArray, List.set_cons_zero, List.set_cons_succ]
  refine need_turnL (i := 10) rfl (by kernel_rfl) (by rfl) (fun K' hK' => ?_)
  go_simp
  refine hK' _ _ (fun _ => trivial) ?_
  clear hK' K'
  try simp only [Act.put, List.setIfInBounds_toArray, List.set_cons_zero, List.set_cons_succ]
  refine need_done (by kernel_rfl) ?_ _
  clear hup hfr e2 e3 hbn hW1 hwr
  go_wp2
  go_ret
  exact hfin.out
/-- The question on equal items. -/
theorem run_same_item (x : Qit) (w : World) : (binOp .neq 34 (.agg x.cells.toArray) (.agg x.cells.toArray)).run Try.prog w = .ok (.bool false) w := by
  obtain ⟨d, s, i⟩ := x
  dsimp only [Qit.cells]
  have h : (Op.equalIn 10000 34 (.agg #[.int .i64 d, .int .i64 s, .int .u64 ((hiN i : Nat) : Int), .int .u64 ((loN i : Nat) : Int)]) (.agg #[.int .i64 d, .int .i64 s, .int .u64 ((hiN i : Nat) : Int), .int .u64 ((loN i : Nat) : Int)])).run Try.prog w = .ok true w := by simp [go_sem]
  rw [run_neq_struct, h]; rfl
theorem run_same_ref (x : Qit) (w : World) : (binOp .neq 39 (.agg x.cells.toArray) (.agg x.cells.toArray)).run Try.prog w = .ok (.bool false) w := by
  obtain ⟨d, s, i⟩ := x
  dsimp only [Qit.cells]
  have h : (Op.equalIn 10000 39 (.agg #[.int .i64 d, .int .i64 s, .int .u64 ((hiN i : Nat) : Int), .int .u64 ((loN i : Nat) : Int)]) (.agg #[.int .i64 d, .int .i64 s, .int .u64 ((hiN i : Nat) : Int), .int .u64 ((loN i : Nat) : Int)])).run Try.prog w = .ok true w := by simp [go_sem]
  rw [run_neq_struct, h]; rfl
end Go.Proofs.Ytgdlcfkgdaaooaa
