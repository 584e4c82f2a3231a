/- Stage 26: the walk of ShelfOf. No condition but the landed package's. -/
import Derived.Test.YtdphflbgecnhkaaDoorZYc
namespace Go.Proofs.YtdphflbgecnhkaaDoor
open Go.RowKit Go.Sort Wm Cr

theorem good_wf {p : Place} (h : goodPl p = true) : p.Wf := by
  obtain ⟨h1, h2, h3⟩ := (goodPl_iff p).1 h
  have a1 := ((nameB_iff _ _).1 h1).1.2
  have a2 := ((nameB_iff _ _).1 h2).1.2
  exact ⟨by omega, by omega, by omega⟩
theorem run_eql_noPl (w : World) : (binOp .eql 23 (.agg #[.string ⟨#[]⟩, .string ⟨#[]⟩, .int .i64 0]) (.agg #[.string ⟨#[]⟩, .string ⟨#[]⟩, .int .i64 0])).run Tryd.prog w = .ok (.bool true) w := run_eql_place_self noPl w
section
variable {Mo : World → Prop}
set_option maxRecDepth 100000 in
set_option maxHeartbeats 2000000 in
theorem shelfOf_none (L : LandedSh Mo) (n : Nat) (hn : n < big) (w : World) (hM : Mo w) (ho : ofPl n = none) : Calls Tryd.prog 4 #[numV n] w fun e w' => e = .returned (.bool true) ∧ Below w.heap.size w w' := by
  have hm0 := (Hx.refl hM).new L.later [.int .u64 ((hiN n : Nat) : Int), .int .u64 ((loN n : Nat) : Int)] 27
  have hal := Lib.hid (fun l W (h : Hx Mo w W l) => h.ask L.later (shelfAlive_any L W h.mo))
  have ko := Lib.hid (fun l W (h : Hx Mo w W l) => h.ask L.later (L.of n W hn h.mo))
  have hlat := Lib.hid L.later
  rw [ho] at ko
  have hV : placeV ((none : Option Place).getD noPl) = .agg #[.string ⟨#[]⟩, .string ⟨#[]⟩, .int .i64 0] := rfl
  rw [hV] at ko
  have hq := fun W => run_eql_noPl W
  unfold numV at ko ⊢
  clear L hM hV ho
  go_enter Tryd.func4, Tryd.ntmps4
  go_wp2_with fail
  refine (hal.out _ _ hm0).mono ?_
  rintro e w1 ⟨rfl, hm1⟩
  have z0 := (hm1.box _ (List.mem_cons_self ..)).spot 0 _ rfl
  have z1 := (hm1.box _ (List.mem_cons_self ..)).spot 1 _ rfl
  have zl := (hm1.box _ (List.mem_cons_self ..)).lt
  go_wp2_with fail
  refine (ko.out _ _ hm1).mono ?_
  rintro e w2 ⟨rfl, hm2⟩
  have hm3 := hm2.new hlat.out [.string ⟨#[]⟩, .string ⟨#[]⟩, .int .i64 0] 23
  clear z0 z1 zl
  go_wp2
  go_ret
  exact ⟨rfl, hm3.bel⟩
set_option maxRecDepth 100000 in
set_option maxHeartbeats 4000000 in
theorem shelfOf_some (L : LandedSh Mo) (n : Nat) (hn : n < big) (w : World) (hM : Mo w) (q : Place) (ho : ofPl n = some q) : Calls Tryd.prog 4 #[numV n] w fun e w' => e = .returned (.bool true) ∧ Below w.heap.size w w' := by
  obtain ⟨hg, hb⟩ := ofPl_some ho
  have hm0 := (Hx.refl hM).new L.later [.int .u64 ((hiN n : Nat) : Int), .int .u64 ((loN n : Nat) : Int)] 27
  have hal := Lib.hid (fun l W (h : Hx Mo w W l) => h.ask L.later (shelfAlive_any L W h.mo))
  have ko := Lib.hid (fun l W (h : Hx Mo w W l) => h.ask L.later (L.of n W hn h.mo))
  have kr := Lib.hid (fun l W (h : Hx Mo w W l) => h.ask L.later (refgoodp_any q (good_wf hg) W))
  have kb := Lib.hid (fun l W (h : Hx Mo w W l) => h.ask L.later (refbytes_any n W))
  have kp := Lib.hid (fun l W (h : Hx Mo w W l) => h.ask L.later (refplace_any q (good_wf hg) hg W))
  have hnb : (⟨(bytesL n).toArray⟩ : ByteArray) = plcB q := hb.symm
  rw [hnb] at kb
  have hlat := Lib.hid L.later
  rw [ho] at ko
  rw [hg] at kr
  have hV : placeV q = .agg q.cells.toArray := rfl
  have hO : (Option.some q).getD noPl = q := rfl
  rw [hO, hV] at ko
  rw [hV] at kr
  have hMl : q.cells.toArray.size = 3 := rfl
  have hM1 : q.cells.toArray.all (·.oneCell') = true := by unfold Place.cells; simp [Value.oneCell']
  have hMi := Lib.hid (show (Tryd.prog.info? 23).map (·.size) = some q.cells.length by rw [Place.cells_length]; kernel_rfl)
  have hc0 := Lib.hid (fun W b l (h : Hx Mo w W l) (hm : (b, q.cells) ∈ l) => (show W.cell? ⟨b, 0, none⟩ = some (.string q.Good) ∧ b < W.heap.size from ⟨(h.box _ hm).spot 0 _ rfl, (h.box _ hm).lt⟩))
  have hc1 := Lib.hid (fun W b l (h : Hx Mo w W l) (hm : (b, q.cells) ∈ l) => (show W.cell? ⟨b, 1, none⟩ = some (.string q.Site) ∧ b < W.heap.size from ⟨(h.box _ hm).spot 1 _ rfl, (h.box _ hm).lt⟩))
  have hc2 := Lib.hid (fun W b l (h : Hx Mo w W l) (hm : (b, q.cells) ∈ l) => (show W.cell? ⟨b, 2, none⟩ = some (.int .i64 q.State) ∧ b < W.heap.size from ⟨(h.box _ hm).spot 2 _ rfl, (h.box _ hm).lt⟩))
  generalize plcB q = X at *
  generalize q.cells = M at *
  unfold numV at ko kb ⊢
  clear L hM hV ho hg hb hnb hO
  go_enter Tryd.func4, Tryd.ntmps4
  go_wp2_with fail
  refine (hal.out _ _ hm0).mono ?_
  rintro e w1 ⟨rfl, hm1⟩
  have z0 := (hm1.box _ (List.mem_cons_self ..)).spot 0 _ rfl
  have z1 := (hm1.box _ (List.mem_cons_self ..)).spot 1 _ rfl
  have zl := (hm1.box _ (List.mem_cons_self ..)).lt
  go_wp2_with fail
  refine (ko.out _ _ hm1).mono ?_
  rintro e w2 ⟨rfl, hm2⟩
  have hm3 := hm2.new hlat.out M 23
  clear z0 z1 zl
  go_wp2_with (first | (refine wpList_store_new rfl 23 _ _ rfl w2 _ M.toArray rfl rfl rfl (by rw [hMl]; kernel_rfl) (by rw [hMl]; rfl) hM1 ?_))
  refine wp_region_calm (fun w' => Hx Mo w w' [(w2.heap.size, M), (w.heap.size, [.int .u64 ((hiN n : Nat) : Int), .int .u64 ((loN n : Nat) : Int)])]) (by kernel_rfl) (by kernel_rfl) (hm3.drew hlat.out) ?_
  refine calm_load 23 _ (w2.heap.size) 0 (M) _ (by rfl) rfl rfl (fun w' h => (h.box (w2.heap.size, M) (by simp)).range) Tryd.underlying23 rfl (by first | exact hMi.out | exact hNi.out | exact hCi.out | exact hDi.out | kernel_rfl) ?_
  try simp only [Act.put, List.setIfInBounds_toArray, List.set_cons_zero, List.set_cons_succ]
  refine calm_call 9 #[.agg M.toArray] (by rfl) (fun w' => by go_simp) (fun w' h => (kr.out _ w' h)) ?_
  try simp only [Act.put, List.setIfInBounds_toArray, List.set_cons_zero, List.set_cons_succ]
  refine calm_pure (v := ?cv88) (by rfl) (fun w' => ?ch88) ?cr88
  case ch88 => (go_simp; first | done | with_reducible rfl)
  try simp only [Act.put, List.setIfInBounds_toArray, List.set_cons_zero, List.set_cons_succ]
  refine calm_pure (v := ?cv91) (by rfl) (fun w' => ?ch91) ?cr91
  case ch91 => (go_simp; first | done | with_reducible rfl)
  try simp only [Act.put, List.setIfInBounds_toArray, List.set_cons_zero, List.set_cons_succ]
  refine calm_read (v := .string q.Good) (by rfl) (fun w' h => ?ch94) ?cr94
  case ch94 => (obtain ⟨hcq, hcl⟩ := hc0.out _ w2.heap.size _ h (by simp); go_simp)
  try simp only [Act.put, List.setIfInBounds_toArray, List.set_cons_zero, List.set_cons_succ]
  refine calm_pure (v := ?cv97) (by rfl) (fun w' => ?ch97) ?cr97
  case ch97 => (go_simp; first | done | with_reducible rfl)
  try simp only [Act.put, List.setIfInBounds_toArray, List.set_cons_zero, List.set_cons_succ]
  refine calm_read (v := .string q.Site) (by rfl) (fun w' h => ?ch100) ?cr100
  case ch100 => (obtain ⟨hcq, hcl⟩ := hc1.out _ w2.heap.size _ h (by simp); go_simp)
  try simp only [Act.put, List.setIfInBounds_toArray, List.set_cons_zero, List.set_cons_succ]
  refine calm_pure (v := ?cv103) (by rfl) (fun w' => ?ch103) ?cr103
  case ch103 => (go_simp; first | done | with_reducible rfl)
  try simp only [Act.put, List.setIfInBounds_toArray, List.set_cons_zero, List.set_cons_succ]
  refine calm_read (v := .int .i64 q.State) (by rfl) (fun w' h => ?ch106) ?cr106
  case ch106 => (obtain ⟨hcq, hcl⟩ := hc2.out _ w2.heap.size _ h (by simp); go_simp)
  try simp only [Act.put, List.setIfInBounds_toArray, List.set_cons_zero, List.set_cons_succ]
  refine calm_call 12 #[.string q.Good, .string q.Site, .int .i64 q.State] (by rfl) (fun w' => by go_simp) (fun w' h => (kp.out _ w' h)) ?_
  try simp only [Act.put, List.setIfInBounds_toArray, List.set_cons_zero, List.set_cons_succ]
  refine calm_load 27 _ (w.heap.size) 0 ([.int .u64 ((hiN n : Nat) : Int), .int .u64 ((loN n : Nat) : Int)]) _ (by rfl) rfl rfl (fun w' h => (h.box (w.heap.size, [.int .u64 ((hiN n : Nat) : Int), .int .u64 ((loN n : Nat) : Int)]) (by simp)).range) Tryd.underlying27 rfl (by first | exact hMi.out | exact hNi.out | exact hCi.out | exact hDi.out | kernel_rfl) ?_
  try simp only [Act.put, List.setIfInBounds_toArray, List.set_cons_zero, List.set_cons_succ]
  refine calm_call 11 #[.agg #[.int .u64 ((hiN n : Nat) : Int), .int .u64 ((loN n : Nat) : Int)]] (by rfl) (fun w' => by go_simp) (fun w' h => (kb.out _ w' h)) ?_
  try simp only [Act.put, List.setIfInBounds_toArray, List.set_cons_zero, List.set_cons_succ]
  refine calm_pure (v := ?cv115) (by rfl) (fun w' => ?ch115) ?cr115
  case ch115 => (go_simp; first | done | with_reducible rfl)
  try simp only [Act.put, List.setIfInBounds_toArray, List.set_cons_zero, List.set_cons_succ]
  refine calm_pure (v := ?cv118) (by rfl) (fun w' => ?ch118) ?cr118
  case ch118 => (go_simp; first | done | with_reducible rfl)
  try simp only [Act.put, List.setIfInBounds_toArray, List.set_cons_zero, List.set_cons_succ]
  refine calm_pure (v := ?cv121) (by rfl) (fun w' => ?ch121) ?cr121
  case ch121 => (go_simp; first | done | with_reducible rfl)
  try simp only [Act.put, List.setIfInBounds_toArray, List.set_cons_zero, List.set_cons_succ]
  intro w4 hm4
  go_wp2
  go_ret
  exact ⟨rfl, hm4.bel⟩
theorem shelfOf_any (L : LandedSh Mo) (n : Nat) (hn : n < big) (w : World) (hM : Mo w) : Calls Tryd.prog 4 #[numV n] w fun e w' => e = .returned (.bool true) ∧ Below w.heap.size w w' := by
  cases ho : ofPl n with
  | none => exact shelfOf_none L n hn w hM ho
  | some q => exact shelfOf_some L n hn w hM q ho
end
end Go.Proofs.YtdphflbgecnhkaaDoor
