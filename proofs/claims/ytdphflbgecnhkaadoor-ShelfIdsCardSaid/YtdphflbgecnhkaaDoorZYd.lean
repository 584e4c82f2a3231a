/- Stage 26: the walk of ShelfIds. No condition but the landed package's. -/
import Derived.Test.YtdphflbgecnhkaaDoorZYc
namespace Go.Proofs.YtdphflbgecnhkaaDoor
open Go.RowKit Go.Sort Wm Cr
attribute [local go_sem high] run_eql_num run_eql_num0

section
variable {Mo : World → Prop}
set_option maxRecDepth 100000 in
set_option maxHeartbeats 2000000 in
theorem shelfIds_big (L : LandedSh Mo) (p : Place) (hp : p.Wf) (w : World) (hM : Mo w) (hbig : 100 < p.Good.size + p.Site.size) : Calls Tryd.prog 3 #[placeV p] w fun e w' => e = .returned (.bool true) ∧ Below w.heap.size w w' := by
  have hm0 := (Hx.refl hM).new L.later p.cells 23
  have hal := Lib.hid (fun l W (h : Hx Mo w W l) => h.ask L.later (shelfAlive_any L W h.mo))
  have hb : decide ((100 : Int) < (p.Good.size : Int) + (p.Site.size : Int)) = true := decide_eq_true (by omega)
  have b1 := hp.Good
  have b2 := hp.Site
  rw [placeV_eq]
  clear L hM
  go_enter Tryd.func3, Tryd.ntmps3
  go_wp2_with fail
  refine (hal.out _ _ hm0).mono ?_
  rintro e w1 ⟨rfl, hm1⟩
  have z0 := (hm1.box _ (List.mem_cons_self ..)).spot 0 _ rfl
  have z1 := (hm1.box _ (List.mem_cons_self ..)).spot 1 _ rfl
  have zl := (hm1.box _ (List.mem_cons_self ..)).lt
  go_wp2
  go_ret
  exact ⟨rfl, hm1.bel⟩
set_option maxRecDepth 100000 in
set_option maxHeartbeats 4000000 in
theorem shelfIds_bad (L : LandedSh Mo) (p : Place) (hp : p.Wf) (w : World) (hM : Mo w) (hbig : ¬ 100 < p.Good.size + p.Site.size) (hg : goodPl p = false) : Calls Tryd.prog 3 #[placeV p] w fun e w' => e = .returned (.bool true) ∧ Below w.heap.size w w' := by
  have hm0 := (Hx.refl hM).new L.later p.cells 23
  have hal := Lib.hid (fun l W (h : Hx Mo w W l) => h.ask L.later (shelfAlive_any L W h.mo))
  have ki := Lib.hid (fun l W (h : Hx Mo w W l) => h.ask L.later (L.id p W hp h.mo))
  have kg := Lib.hid (fun l W (h : Hx Mo w W l) => h.ask L.later (L.good p W hp h.mo))
  have kr := Lib.hid (fun l W (h : Hx Mo w W l) => h.ask L.later (refgoodp_any p hp W))
  have hlat := Lib.hid L.later
  have hid : idPl p = 0 := by unfold idPl; rw [hg]; rfl
  have hb : decide ((100 : Int) < (p.Good.size : Int) + (p.Site.size : Int)) = false := decide_eq_false (by omega)
  have b1 := hp.Good
  have b2 := hp.Site
  have hMi := Lib.hid (show (Tryd.prog.info? 23).map (·.size) = some p.cells.length by rw [Place.cells_length]; kernel_rfl)
  have hC := Lib.hid (fun W l (h : Hx Mo w W l) (hm : (w.heap.size, p.cells) ∈ l) => (show W.cell? ⟨w.heap.size, 0, none⟩ = some (.string p.Good) ∧ W.cell? ⟨w.heap.size, 1, none⟩ = some (.string p.Site) ∧ W.cell? ⟨w.heap.size, 2, none⟩ = some (.int .i64 p.State) ∧ w.heap.size < W.heap.size from
    ⟨(h.box _ hm).spot 0 _ rfl, (h.box _ hm).spot 1 _ rfl, (h.box _ hm).spot 2 _ rfl, (h.box _ hm).lt⟩))
  rw [hid, hg] at ki
  rw [hg] at kg kr
  have hV : placeV p = .agg p.cells.toArray := rfl
  rw [placeV_eq] at ki
  rw [hV] at kg kr ⊢
  generalize p.cells = M at *
  clear L hM hid hV hbig hg
  go_enter Tryd.func3, Tryd.ntmps3
  go_wp2_with fail
  refine (hal.out _ _ hm0).mono ?_
  rintro e w1 ⟨rfl, hm1⟩
  obtain ⟨z0, z1, z2, zl⟩ := hC.out _ _ hm1 (by simp)
  go_wp2_with fail
  refine (ki.out _ _ hm1).mono ?_
  rintro e w2 ⟨rfl, hm2⟩
  have hm3 := hm2.new hlat.out [.int .u64 0, .int .u64 0] 27
  clear z0 z1 z2 zl
  go_wp2_with fail
  refine wp_region_calm (fun w' => Hx Mo w w' [(w2.heap.size, [.int .u64 0, .int .u64 0]), (w.heap.size, M)]) (by kernel_rfl) (by kernel_rfl) (hm3.drew hlat.out) ?_
  refine calm_load 23 _ (w.heap.size) 0 (M) _ (by rfl) rfl rfl (fun w' h => (h.box (w.heap.size, M) (by simp)).range) Tryd.underlying23 rfl (by first | exact hMi.out | exact hNi.out | exact hCi.out | exact hDi.out | kernel_rfl) ?_
  try simp only [Act.put, List.setIfInBounds_toArray, List.set_cons_zero, List.set_cons_succ]
  refine calm_call 8 #[.agg M.toArray] (by rfl) (fun w' => by go_simp) (fun w' h => (kg.out _ w' h)) ?_
  try simp only [Act.put, List.setIfInBounds_toArray, List.set_cons_zero, List.set_cons_succ]
  refine calm_load 23 _ (w.heap.size) 0 (M) _ (by rfl) rfl rfl (fun w' h => (h.box (w.heap.size, M) (by simp)).range) Tryd.underlying23 rfl (by first | exact hMi.out | exact hNi.out | exact hCi.out | exact hDi.out | kernel_rfl) ?_
  try simp only [Act.put, List.setIfInBounds_toArray, List.set_cons_zero, List.set_cons_succ]
  refine calm_call 9 #[.agg M.toArray] (by rfl) (fun w' => by go_simp) (fun w' h => (kr.out _ w' h)) ?_
  try simp only [Act.put, List.setIfInBounds_toArray, List.set_cons_zero, List.set_cons_succ]
  refine calm_pure (v := ?cv71) (by rfl) (fun w' => ?ch71) ?cr71
  case ch71 => (go_simp; first | done | with_reducible rfl)
  try simp only [Act.put, List.setIfInBounds_toArray, List.set_cons_zero, List.set_cons_succ]
  intro w4 hm4
  go_wp2_with (first | (refine wpList_load_midg rfl 23 _ rfl w.heap.size 0 rfl M _ (hm4.range (by simp)) Tryd.underlying23 rfl hMi.out ?_))
  refine (kr.out _ _ hm4).mono ?_
  rintro e w5 ⟨rfl, hm5⟩
  have y0 := (hm5.box (w2.heap.size, [.int .u64 0, .int .u64 0]) (by simp)).spot 0 _ rfl
  have y1 := (hm5.box (w2.heap.size, [.int .u64 0, .int .u64 0]) (by simp)).spot 1 _ rfl
  have yl := (hm5.box (w2.heap.size, [.int .u64 0, .int .u64 0]) (by simp)).lt
  go_wp2
  go_ret
  exact ⟨rfl, hm5.bel⟩
set_option maxRecDepth 100000 in
set_option maxHeartbeats 4000000 in
theorem shelfIds_good (L : LandedSh Mo) (p : Place) (hp : p.Wf) (w : World) (hM : Mo w) (hbig : ¬ 100 < p.Good.size + p.Site.size) (hg : goodPl p = true) : Calls Tryd.prog 3 #[placeV p] w fun e w' => e = .returned (.bool true) ∧ Below w.heap.size w w' := by
  have hm0 := (Hx.refl hM).new L.later p.cells 23
  have hal := Lib.hid (fun l W (h : Hx Mo w W l) => h.ask L.later (shelfAlive_any L W h.mo))
  have ki := Lib.hid (fun l W (h : Hx Mo w W l) => h.ask L.later (L.id p W hp h.mo))
  have kg := Lib.hid (fun l W (h : Hx Mo w W l) => h.ask L.later (L.good p W hp h.mo))
  have kr := Lib.hid (fun l W (h : Hx Mo w W l) => h.ask L.later (refgoodp_any p hp W))
  have ko := Lib.hid (fun l W (h : Hx Mo w W l) => h.ask L.later (L.of (idPl p) W (idPl_lt p) h.mo))
  have kb := Lib.hid (fun l W (h : Hx Mo w W l) => h.ask L.later (refbytes_any (idPl p) W))
  have kp := Lib.hid (fun l W (h : Hx Mo w W l) => h.ask L.later (refplace_any p hp hg W))
  have hnb : (⟨(bytesL (idPl p)).toArray⟩ : ByteArray) = plcB p := idPl_bytes hg
  rw [hnb] at kb
  rw [ofPl_id hg] at ko
  have hlat := Lib.hid L.later
  have hb : decide ((100 : Int) < (p.Good.size : Int) + (p.Site.size : Int)) = false := decide_eq_false (by omega)
  have b1 := hp.Good
  have b2 := hp.Site
  have hMi := Lib.hid (show (Tryd.prog.info? 23).map (·.size) = some p.cells.length by rw [Place.cells_length]; kernel_rfl)
  have hC := Lib.hid (fun W l (h : Hx Mo w W l) (hm : (w.heap.size, p.cells) ∈ l) => (show W.cell? ⟨w.heap.size, 0, none⟩ = some (.string p.Good) ∧ W.cell? ⟨w.heap.size, 1, none⟩ = some (.string p.Site) ∧ W.cell? ⟨w.heap.size, 2, none⟩ = some (.int .i64 p.State) ∧ w.heap.size < W.heap.size from
    ⟨(h.box _ hm).spot 0 _ rfl, (h.box _ hm).spot 1 _ rfl, (h.box _ hm).spot 2 _ rfl, (h.box _ hm).lt⟩))
  have hc0 := Lib.hid (fun W l (h : Hx Mo w W l) (hm : (w.heap.size, p.cells) ∈ l) => (show W.cell? ⟨w.heap.size, 0, none⟩ = some (.string p.Good) ∧ w.heap.size < W.heap.size from ⟨(h.box _ hm).spot 0 _ rfl, (h.box _ hm).lt⟩))
  have hc1 := Lib.hid (fun W l (h : Hx Mo w W l) (hm : (w.heap.size, p.cells) ∈ l) => (show W.cell? ⟨w.heap.size, 1, none⟩ = some (.string p.Site) ∧ w.heap.size < W.heap.size from ⟨(h.box _ hm).spot 1 _ rfl, (h.box _ hm).lt⟩))
  have hc2 := Lib.hid (fun W l (h : Hx Mo w W l) (hm : (w.heap.size, p.cells) ∈ l) => (show W.cell? ⟨w.heap.size, 2, none⟩ = some (.int .i64 p.State) ∧ w.heap.size < W.heap.size from ⟨(h.box _ hm).spot 2 _ rfl, (h.box _ hm).lt⟩))
  have hqq := fun W => run_eql_place_self p W
  rw [hg] at ki kg kr
  have hV : placeV p = .agg p.cells.toArray := rfl
  have hO : (Option.some p).getD noPl = p := rfl
  rw [hO] at ko
  rw [placeV_eq] at ki
  rw [hV] at kg kr ko ⊢
  have hMl : p.cells.toArray.size = 3 := rfl
  have hM1 : p.cells.toArray.all (·.oneCell') = true := by unfold Place.cells; simp [Value.oneCell']
  generalize plcB p = X at *
  generalize idPl p = n at *
  generalize p.cells = M at *
  unfold numV at ki ko kb
  clear L hM hV hbig hg hO hnb
  go_enter Tryd.func3, Tryd.ntmps3
  go_wp2_with fail
  refine (hal.out _ _ hm0).mono ?_
  rintro e w1 ⟨rfl, hm1⟩
  obtain ⟨z0, z1, z2, zl⟩ := hC.out _ _ hm1 (by simp)
  go_wp2_with fail
  refine (ki.out _ _ hm1).mono ?_
  rintro e w2 ⟨rfl, hm2⟩
  have hm3 := hm2.new hlat.out [.int .u64 ((hiN n : Nat) : Int), .int .u64 ((loN n : Nat) : Int)] 27
  clear z0 z1 z2 zl
  go_wp2_with fail
  refine wp_region_calm (fun w' => Hx Mo w w' [(w2.heap.size, [.int .u64 ((hiN n : Nat) : Int), .int .u64 ((loN n : Nat) : Int)]), (w.heap.size, M)]) (by kernel_rfl) (by kernel_rfl) (hm3.drew hlat.out) ?_
  refine calm_load 23 _ (w.heap.size) 0 (M) _ (by rfl) rfl rfl (fun w' h => (h.box (w.heap.size, M) (by simp)).range) Tryd.underlying23 rfl (by first | exact hMi.out | exact hNi.out | exact hCi.out | exact hDi.out | kernel_rfl) ?_
  try simp only [Act.put, List.setIfInBounds_toArray, List.set_cons_zero, List.set_cons_succ]
  refine calm_call 8 #[.agg M.toArray] (by rfl) (fun w' => by go_simp) (fun w' h => (kg.out _ w' h)) ?_
  try simp only [Act.put, List.setIfInBounds_toArray, List.set_cons_zero, List.set_cons_succ]
  refine calm_load 23 _ (w.heap.size) 0 (M) _ (by rfl) rfl rfl (fun w' h => (h.box (w.heap.size, M) (by simp)).range) Tryd.underlying23 rfl (by first | exact hMi.out | exact hNi.out | exact hCi.out | exact hDi.out | kernel_rfl) ?_
  try simp only [Act.put, List.setIfInBounds_toArray, List.set_cons_zero, List.set_cons_succ]
  refine calm_call 9 #[.agg M.toArray] (by rfl) (fun w' => by go_simp) (fun w' h => (kr.out _ w' h)) ?_
  try simp only [Act.put, List.setIfInBounds_toArray, List.set_cons_zero, List.set_cons_succ]
  refine calm_pure (v := ?cv142) (by rfl) (fun w' => ?ch142) ?cr142
  case ch142 => (go_simp; first | done | with_reducible rfl)
  try simp only [Act.put, List.setIfInBounds_toArray, List.set_cons_zero, List.set_cons_succ]
  intro w4 hm4
  go_wp2_with (first | (refine wpList_load_midg rfl 23 _ rfl w.heap.size 0 rfl M _ (hm4.range (by simp)) Tryd.underlying23 rfl hMi.out ?_))
  refine (kr.out _ _ hm4).mono ?_
  rintro e w5 ⟨rfl, hm5⟩
  have y0 := (hm5.box (w2.heap.size, [.int .u64 ((hiN n : Nat) : Int), .int .u64 ((loN n : Nat) : Int)]) (by simp)).spot 0 _ rfl
  have y1 := (hm5.box (w2.heap.size, [.int .u64 ((hiN n : Nat) : Int), .int .u64 ((loN n : Nat) : Int)]) (by simp)).spot 1 _ rfl
  have yl := (hm5.box (w2.heap.size, [.int .u64 ((hiN n : Nat) : Int), .int .u64 ((loN n : Nat) : Int)]) (by simp)).lt
  go_wp2_with fail
  refine (ko.out _ _ hm5).mono ?_
  rintro e w6 ⟨rfl, hm6⟩
  have hm7 := hm6.new hlat.out M 23
  clear y0 y1 yl
  go_wp2_with (first | (refine wpList_store_new rfl 23 _ _ rfl w6 _ M.toArray rfl rfl rfl (by rw [hMl]; kernel_rfl) (by rw [hMl]; rfl) hM1 ?_))
  refine wp_region_calm (fun w' => Hx Mo w w' [(w6.heap.size, M), (w2.heap.size, [.int .u64 ((hiN n : Nat) : Int), .int .u64 ((loN n : Nat) : Int)]), (w.heap.size, M)]) (by kernel_rfl) (by kernel_rfl) (hm7.drew hlat.out) ?_
  refine calm_pure (v := ?cv159) (by rfl) (fun w' => ?ch159) ?cr159
  case ch159 => (go_simp; first | done | with_reducible rfl)
  try simp only [Act.put, List.setIfInBounds_toArray, List.set_cons_zero, List.set_cons_succ]
  refine calm_pure (v := ?cv162) (by rfl) (fun w' => ?ch162) ?cr162
  case ch162 => (go_simp; first | done | with_reducible rfl)
  try simp only [Act.put, List.setIfInBounds_toArray, List.set_cons_zero, List.set_cons_succ]
  refine calm_pure (v := ?cv165) (by rfl) (fun w' => ?ch165) ?cr165
  case ch165 => (go_simp; first | done | with_reducible rfl)
  try simp only [Act.put, List.setIfInBounds_toArray, List.set_cons_zero, List.set_cons_succ]
  refine calm_load 27 _ (w2.heap.size) 0 ([.int .u64 ((hiN n : Nat) : Int), .int .u64 ((loN n : Nat) : Int)]) _ (by rfl) rfl rfl (fun w' h => (h.box (w2.heap.size, [.int .u64 ((hiN n : Nat) : Int), .int .u64 ((loN n : Nat) : Int)]) (by simp)).range) Tryd.underlying27 rfl (by first | exact hMi.out | exact hNi.out | exact hCi.out | exact hDi.out | kernel_rfl) ?_
  try simp only [Act.put, List.setIfInBounds_toArray, List.set_cons_zero, List.set_cons_succ]
  refine calm_call 11 #[.agg #[.int .u64 ((hiN n : Nat) : Int), .int .u64 ((loN n : Nat) : Int)]] (by rfl) (fun w' => by go_simp) (fun w' h => (kb.out _ w' h)) ?_
  try simp only [Act.put, List.setIfInBounds_toArray, List.set_cons_zero, List.set_cons_succ]
  refine calm_pure (v := ?cv172) (by rfl) (fun w' => ?ch172) ?cr172
  case ch172 => (go_simp; first | done | with_reducible rfl)
  try simp only [Act.put, List.setIfInBounds_toArray, List.set_cons_zero, List.set_cons_succ]
  refine calm_read (v := .string p.Good) (by rfl) (fun w' h => ?ch175) ?cr175
  case ch175 => (obtain ⟨hcq, hcl⟩ := hc0.out _ _ h (by simp); go_simp)
  try simp only [Act.put, List.setIfInBounds_toArray, List.set_cons_zero, List.set_cons_succ]
  refine calm_pure (v := ?cv178) (by rfl) (fun w' => ?ch178) ?cr178
  case ch178 => (go_simp; first | done | with_reducible rfl)
  try simp only [Act.put, List.setIfInBounds_toArray, List.set_cons_zero, List.set_cons_succ]
  refine calm_read (v := .string p.Site) (by rfl) (fun w' h => ?ch181) ?cr181
  case ch181 => (obtain ⟨hcq, hcl⟩ := hc1.out _ _ h (by simp); go_simp)
  try simp only [Act.put, List.setIfInBounds_toArray, List.set_cons_zero, List.set_cons_succ]
  refine calm_pure (v := ?cv184) (by rfl) (fun w' => ?ch184) ?cr184
  case ch184 => (go_simp; first | done | with_reducible rfl)
  try simp only [Act.put, List.setIfInBounds_toArray, List.set_cons_zero, List.set_cons_succ]
  refine calm_read (v := .int .i64 p.State) (by rfl) (fun w' h => ?ch187) ?cr187
  case ch187 => (obtain ⟨hcq, hcl⟩ := hc2.out _ _ h (by simp); go_simp)
  try simp only [Act.put, List.setIfInBounds_toArray, List.set_cons_zero, List.set_cons_succ]
  refine calm_call 12 #[.string p.Good, .string p.Site, .int .i64 p.State] (by rfl) (fun w' => by go_simp) (fun w' h => (kp.out _ w' h)) ?_
  try simp only [Act.put, List.setIfInBounds_toArray, List.set_cons_zero, List.set_cons_succ]
  refine calm_pure (v := ?cv192) (by rfl) (fun w' => ?ch192) ?cr192
  case ch192 => (go_simp; first | done | with_reducible rfl)
  try simp only [Act.put, List.setIfInBounds_toArray, List.set_cons_zero, List.set_cons_succ]
  refine calm_pure (v := ?cv195) (by rfl) (fun w' => ?ch195) ?cr195
  case ch195 => (go_simp; first | done | with_reducible rfl)
  try simp only [Act.put, List.setIfInBounds_toArray, List.set_cons_zero, List.set_cons_succ]
  refine calm_pure (v := ?cv198) (by rfl) (fun w' => ?ch198) ?cr198
  case ch198 => (go_simp; first | done | with_reducible rfl)
  try simp only [Act.put, List.setIfInBounds_toArray, List.set_cons_zero, List.set_cons_succ]
  refine calm_pure (v := ?cv201) (by rfl) (fun w' => ?ch201) ?cr201
  case ch201 => (go_simp; first | done | with_reducible rfl)
  try simp only [Act.put, List.setIfInBounds_toArray, List.set_cons_zero, List.set_cons_succ]
  refine calm_pure (v := ?cv204) (by rfl) (fun w' => ?ch204) ?cr204
  case ch204 => (go_simp; first | done | with_reducible rfl)
  try simp only [Act.put, List.setIfInBounds_toArray, List.set_cons_zero, List.set_cons_succ]
  refine calm_pure (v := ?cv207) (by rfl) (fun w' => ?ch207) ?cr207
  case ch207 => (go_simp; first | done | with_reducible rfl)
  try simp only [Act.put, List.setIfInBounds_toArray, List.set_cons_zero, List.set_cons_succ]
  refine calm_load 23 _ (w6.heap.size) 0 (M) _ (by rfl) rfl rfl (fun w' h => (h.box (w6.heap.size, M) (by simp)).range) Tryd.underlying23 rfl (by first | exact hMi.out | exact hNi.out | exact hCi.out | exact hDi.out | kernel_rfl) ?_
  try simp only [Act.put, List.setIfInBounds_toArray, List.set_cons_zero, List.set_cons_succ]
  refine calm_load 23 _ (w.heap.size) 0 (M) _ (by rfl) rfl rfl (fun w' h => (h.box (w.heap.size, M) (by simp)).range) Tryd.underlying23 rfl (by first | exact hMi.out | exact hNi.out | exact hCi.out | exact hDi.out | kernel_rfl) ?_
  try simp only [Act.put, List.setIfInBounds_toArray, List.set_cons_zero, List.set_cons_succ]
  refine calm_pure (v := ?cv214) (by rfl) (fun w' => ?ch214) ?cr214
  case ch214 => (go_simp; first | done | with_reducible rfl)
  try simp only [Act.put, List.setIfInBounds_toArray, List.set_cons_zero, List.set_cons_succ]
  refine calm_pure (v := ?cv217) (by rfl) (fun w' => ?ch217) ?cr217
  case ch217 => (go_simp; first | done | with_reducible rfl)
  try simp only [Act.put, List.setIfInBounds_toArray, List.set_cons_zero, List.set_cons_succ]
  refine calm_pure (v := ?cv220) (by rfl) (fun w' => ?ch220) ?cr220
  case ch220 => (go_simp; first | done | with_reducible rfl)
  try simp only [Act.put, List.setIfInBounds_toArray, List.set_cons_zero, List.set_cons_succ]
  intro w8 hm8
  go_wp2
  go_ret
  exact ⟨rfl, hm8.bel⟩
theorem shelfIds_any (L : LandedSh Mo) (p : Place) (hp : p.Wf) (w : World) (hM : Mo w) : Calls Tryd.prog 3 #[placeV p] w fun e w' => e = .returned (.bool true) ∧ Below w.heap.size w w' := by
  by_cases h : 100 < p.Good.size + p.Site.size
  · exact shelfIds_big L p hp w hM h
  · cases hg : goodPl p
    · exact shelfIds_bad L p hp w hM h hg
    · exact shelfIds_good L p hp w hM h hg
end
end Go.Proofs.YtdphflbgecnhkaaDoor
